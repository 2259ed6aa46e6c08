/- RcE, RcF, joined. -/
import Derived.Test.YtanaapfobpgibaaGreatDoorRcD
open Go.Proofs.Tryz
set_option maxHeartbeats 2000000
namespace Go.Proofs.YtanaapfobpgibaaGreatDoor.Rc
open Go.RowKit Go.Maps Go.Great
open Rt (Ky zK bF)
open Rs (En zE aU cN bM iC ps eA Tb cq ar ah aP)
set_option linter.unusedVariables false
set_option linter.unusedSimpArgs false
/- The record of a step. -/
variable {W W' w w':World} {B:Nat} {cs:Array Value} {vJ vL vi vj vl:Value} {J lj ll:List (Int×Int)} {li:List It} {L:List Int} {T:TypeId} {n:Tr}
def pW (t:Tr) (L J:List Int):List Int:=if b_ t L J=0 then L else []
def CA (t:Tr) (L J:List Int) (vL vJ:Value):Array Value:=#[.int .i64 (cZ t L J).ep,.int .i64 (cZ t L J).fr,vL,vJ]
structure Z5 (w w':World) (t:Tr) (L J:List Int) (vL vJ:Value):Prop where
 lv:w'.ownsRow w.heap.size 3 1 vL (pW t L J).length (cq (pW t L J))
 jn:w'.ownsRow w.heap.size 113 2 vJ (bO t L J).length (ps (bO t L J))
def tX (w w':World) (t:Tr) (L J:List Int) (e:Ending):Prop:=∃vl vj vi vL vJ,e=.returned (.tuple #[.agg (aC (cZ t L J)),.agg #[.int .i64 (rZ t L J),vl,vj,vi],.agg (CA t L J vL vJ),.int .i64 (b_ t L J)])∧Ee w w' t L J vl vj vi∧Z5 w w' t L J vL vJ
theorem tX.no {w w':World} {t:Tr} {L J:List Int} {E:Int} (h:b_ t L J=E) (h0:E≠0):tX w w' t L J (.returned (.tuple #[.agg (aC (tz 0)),.agg cQ,.agg rz,.int .i64 E])):=by
 obtain ⟨vl,vj,vi,e,hP⟩:=gF.no (w:=w) (w':=w') h h0;simp only [Ending.returned.injEq,Value.tuple.injEq,Array.mk.injEq,List.cons.injEq,and_true] at e;refine ⟨vl,vj,vi,.slice none 0 0,.slice none 0 0,?_,hP,?_,?_⟩
 ·rw [e.1,e.2.1];have e1:CA t L J (.slice none 0 0) (.slice none 0 0)=rz:=by unfold CA cZ;rw [h,if_neg h0];rfl
  rw [e1,h]
 ·unfold pW;rw [h,if_neg h0];exact World.ownsRow_nil _ _ _ _
 ·unfold bO;rw [h,if_neg h0];exact World.ownsRow_nil _ _ _ _
theorem vz {fn:Func} {p q r t:Tmp} (hf:fn.results=#[.cell p 39,.cell q 54,.cell r 70,.tmp t]) (tmps:Array Value) (W:World) (K D E:Nat) (u:Tr) (cs ds:Array Value) (hp:tmps[p]? =some (.pointer (some ⟨K,0,none⟩))) (hq:tmps[q]? =some (.pointer (some ⟨D,0,none⟩))) (hr:tmps[r]? =some (.pointer (some ⟨E,0,none⟩))) (hk:az W K u) (hd:b7 W D cs) (hc:cs.size=4) (he:bh W E ds) (hds:ds.size=4):
  (results fn tmps).run prog W=.ok (.tuple #[.agg (aC u),.agg cs,.agg ds,tmps.getD t undef]) W:=by
 have h:=run_loadVar_row W K _ 39 _ _ _ hk underlying39 rfl (by rw [aZ];exact jz);have h2:=run_loadVar_row W D _ 54 _ _ _ hd underlying54 rfl (by rw [hc];exact cS);have h3:=run_loadVar_row W E _ 70 _ _ _ he underlying70 rfl (by rw [hds];exact gY);simp [results,hf,hp,hq,hr,asAddr,h,h2,h3]
theorem RkW (h:b7 w B cs) (hc:cs.size=4):(Instr.loadAt 54 (.pointer (some ⟨B,0,none⟩))).run prog w=.ok (.agg cs) w:=
 jx h underlying54 rfl cS 0 hc fun j hj=>by rw [Nat.zero_add]
theorem RcW (h:bh w B cs) (hc:cs.size=4):(Instr.loadAt 70 (.pointer (some ⟨B,0,none⟩))).run prog w=.ok (.agg cs) w:=
 jx h underlying70 rfl gY 0 hc fun j hj=>by rw [Nat.zero_add]
theorem br (h:b7 w B cs) (hb:Below w.heap.size w w'):b7 w' B cs:=(hb.block B (Array.getElem?_eq_some_iff.1 h).1).trans h
theorem JQ {v0 v1 v2 v3:Value} (h:b7 w B #[v0,v1,v2,v3]):w.cell? ⟨B,0,none⟩=some v0∧w.cell? ⟨B,1,none⟩=some v1∧w.cell? ⟨B,2,none⟩=some v2∧w.cell? ⟨B,3,none⟩=some v3:=
 ⟨cell_of_row w B 0 _ _ _ h,cell_of_row w B 1 _ _ _ h,cell_of_row w B 2 _ _ _ h,cell_of_row w B 3 _ _ _ h⟩
theorem Ns:rz.all (·.oneCell')=true:=by simp [rz,Value.oneCell']
/- The arguments, boxed, and the answer's places. -/
structure SX (w W:World) (B C K D E:Nat) (t:Tr) (aL aJ:Option Addr) (nL nJ cL cJ:Nat):Prop where
 nx:NX w W B C K D t aL aJ nL nJ cL cJ
 re:bh W E rz
 gE:w.heap.size≤E
theorem SX.later {w W W':World} {B C K D E:Nat} {t:Tr} {aL aJ:Option Addr} {nL nJ cL cJ:Nat} (h:SX w W B C K D E t aL aJ nL nJ cL cJ) (hb:Below W.heap.size W W'):SX w W' B C K D E t aL aJ nL nJ cL cJ:=⟨h.nx.later hb,h.re.later hb,h.gE⟩
theorem SX.new (w:World) (t:Tr) (aL aJ:Option Addr) (nL nJ cL cJ:Nat):SX w (((((w.alloc (.cells (aC t) 39)).alloc (.cells #[.slice aL nL cL,.slice aJ nJ cJ] 43)).alloc (.cells (aC (tz 0)) 39)).alloc (.cells cQ 54)).alloc (.cells rz 70)) w.heap.size (w.heap.size+1) (w.heap.size+2) (w.heap.size+3) (w.heap.size+4) t aL aJ nL nJ cL cJ:=by
 have h1:=NX.new w t aL aJ nL nJ cL cJ;generalize hW:(((w.alloc (.cells (aC t) 39)).alloc (.cells #[.slice aL nL cL,.slice aJ nJ cJ] 43)).alloc (.cells (aC (tz 0)) 39)).alloc (.cells cQ 54)=W at *;have hs:W.heap.size=w.heap.size+4:=by rw [←hW];simp
 have h3:=heap_alloc_last W (.cells rz 70);rw [hs] at h3;exact ⟨h1.later (aa _ _),h3,by omega⟩
/- The answers in their boxes, the lists, the answer's places. -/
structure Rw (w W:World) (vl vj vi vL vJ:Value) (ll lj:List (Int×Int)) (li:List It) (L:List Int) (J:List (Int×Int)):Prop where
 left:W.ownsRow w.heap.size 113 2 vl ll.length (ps ll)
 join:W.ownsRow w.heap.size 113 2 vj lj.length (ps lj)
 item:W.ownsRow w.heap.size 103 6 vi li.length (kU li)
 lv:W.ownsRow w.heap.size 3 1 vL L.length (cq L)
 jn:W.ownsRow w.heap.size 113 2 vJ J.length (ps J)
theorem Rw.later (h:Rw w W vl vj vi vL vJ ll lj li L J) (hb:Below W.heap.size W W'):Rw w W' vl vj vi vL vJ ll lj li L J:=
 ⟨ar h.left hb,ar h.join hb,ar h.item hb,ar h.lv hb,ar h.jn hb⟩
theorem Rw.row (h:Rw w W vl vj vi vL vJ ll lj li L J) (hB:W.heap[B]? =some (.cells cs T (0,0))) (h1:113≠T) (h2:103≠T) (h3:3≠T) (ds:Array Value):Rw w (W.setRow B ds) vl vj vi vL vJ ll lj li L J:=
 ⟨aP h.left hB h1 ds,aP h.join hB h1 ds,aP h.item hB h2 ds,aP h.lv hB h3 ds,aP h.jn hB h1 ds⟩
structure SF (w W:World) (N G A K D E:Nat) (n:Tr) (rk rc:Array Value) (vl vj vi vL vJ:Value) (ll lj:List (Int×Int)) (li:List It) (L:List Int) (J:List (Int×Int)):Prop where
 n:az W N n
 m:b7 W G rk
 a:bh W A rc
 ze:∃u,az W K u
 rk:∃cs,cs.size=4∧b7 W D cs
 re:∃cs,cs.size=4∧bh W E cs
 rows:Rw w W vl vj vi vL vJ ll lj li L J
 aK:Below w.heap.size w W
 nK:N≠K
 nD:G≠D
 nE:A≠E
 gK:w.heap.size≤K
 gD:w.heap.size≤D
 gE:w.heap.size≤E
section
variable {w W W':World} {N G A K D E:Nat} {n u:Tr} {rk rc cs ds c:Array Value} {vl vj vi vL vJ:Value} {ll lj:List (Int×Int)} {li:List It} {L:List Int} {J:List (Int×Int)}
theorem SF.later (h:SF w W N G A K D E n rk rc vl vj vi vL vJ ll lj li L J) (hb:Below W.heap.size W W'):SF w W' N G A K D E n rk rc vl vj vi vL vJ ll lj li L J:=
 ⟨h.n.later hb,br h.m hb,h.a.later hb,h.ze.elim fun u hu=>⟨u,hu.later hb⟩,h.rk.elim fun cs hc=>⟨cs,hc.1,br hc.2 hb⟩,h.re.elim fun cs hc=>⟨cs,hc.1,hc.2.later hb⟩,h.rows.later hb,h.aK.trans (hb.mono h.aK.size),h.nK,h.nD,h.nE,h.gK,h.gD,h.gE⟩
theorem SF.Kl (h:SF w W N G A K D E n rk rc vl vj vi vL vJ ll lj li L J) (hc:aC n=c):SF w (W.setRow K c) N G A K D E n rk rc vl vj vi vL vJ ll lj li L J∧az (W.setRow K c) K n:=by
 subst hc;obtain ⟨u,hu⟩:=h.ze;have h1:=hu.row n;exact ⟨⟨(Rt.aq h.nK _).trans h.n,(Rt.aq (ay h.m hu (by decide)) _).trans h.m,(Rt.aq (ay h.a hu (by decide)) _).trans h.a,⟨n,h1⟩,h.rk.elim fun cs hc=>⟨cs,hc.1,(Rt.aq (ay hc.2 hu (by decide)) _).trans hc.2⟩,h.re.elim fun cs hc=>⟨cs,hc.1,(Rt.aq (ay hc.2 hu (by decide)) _).trans hc.2⟩,h.rows.row hu (by decide) (by decide) (by decide) _,Rt.ag h.gK h.aK _,h.nK,h.nD,h.nE,h.gK,h.gD,h.gE⟩,h1⟩
theorem SF.Km (h:SF w W N G A K D E n rk rc vl vj vi vL vJ ll lj li L J) (hu:az W K u) (hd:b7 W D cs) (h4:ds.size=4):SF w (W.setRow D ds) N G A K D E n rk rc vl vj vi vL vJ ll lj li L J∧az (W.setRow D ds) K u∧b7 (W.setRow D ds) D ds:=
 ⟨⟨(Rt.aq (ay h.n hd (by decide)) _).trans h.n,(Rt.aq h.nD _).trans h.m,(Rt.aq (ay h.a hd (by decide)) _).trans h.a,⟨u,(Rt.aq (ay hu hd (by decide)) _).trans hu⟩,⟨ds,h4,Rt.ai hd _⟩,h.re.elim fun cs hc=>⟨cs,hc.1,(Rt.aq (ay hc.2 hd (by decide)) _).trans hc.2⟩,h.rows.row hd (by decide) (by decide) (by decide) _,Rt.ag h.gD h.aK _,h.nK,h.nD,h.nE,h.gK,h.gD,h.gE⟩,(Rt.aq (ay hu hd (by decide)) _).trans hu,Rt.ai hd _⟩
theorem SF.acn (h:SF w W N G A K D E n rk rc vl vj vi vL vJ ll lj li L J) (hu:az W K u) {es:Array Value} (hd:b7 W D es) (he:bh W E cs) (h4:ds.size=4):SF w (W.setRow E ds) N G A K D E n rk rc vl vj vi vL vJ ll lj li L J∧az (W.setRow E ds) K u∧b7 (W.setRow E ds) D es∧bh (W.setRow E ds) E ds:=
 ⟨⟨(Rt.aq (ay h.n he (by decide)) _).trans h.n,(Rt.aq (ay h.m he (by decide)) _).trans h.m,(Rt.aq h.nE _).trans h.a,⟨u,(Rt.aq (ay hu he (by decide)) _).trans hu⟩,h.rk.elim fun cs hc=>⟨cs,hc.1,(Rt.aq (ay hc.2 he (by decide)) _).trans hc.2⟩,⟨ds,h4,Rt.ai he _⟩,h.rows.row he (by decide) (by decide) (by decide) _,Rt.ag h.gE h.aK _,h.nK,h.nD,h.nE,h.gK,h.gD,h.gE⟩,(Rt.aq (ay hu he (by decide)) _).trans hu,(Rt.aq (ay hd he (by decide)) _).trans hd,Rt.ai he _⟩
end
theorem mJ {b:Nat} {e:TypeId} {sz:Nat} {v:Value} {n:Nat} {xs:List Value} (h:W.ownsRow b e sz v n xs) (hB:W.heap[B]? =some (.cells cs T (0,0))) (hne:e≠T) (j:Nat) (u:Value):(W.setCell ⟨B,j,none⟩ u).ownsRow b e sz v n xs:=
 Rs.kQ h fun g hg=>Rt.au (fun e=>kP h hB (Ne.symm hne) (by rw [hg,e])) _ _
theorem SF.aaD {N G A K D E:Nat} {rk rc rc':Array Value} {vL' vJ':Value} {L':List Int} {J':List (Int×Int)} (h:SF w W N G A K D E n rk rc vl vj vi vL vJ ll lj li L J) (hA:w.heap.size≤A) (j:Nat) (u:Value) (hc:rc.setIfInBounds j u=rc')
  (r1:W.ownsRow w.heap.size 3 1 vL' L'.length (cq L')) (r2:W.ownsRow w.heap.size 113 2 vJ' J'.length (ps J')):SF w (W.setCell ⟨A,j,none⟩ u) N G A K D E n rk rc' vl vj vi vL' vJ' ll lj li L' J':=by
 have ha:=h.a;refine ⟨(Rt.au (ay h.n ha (by decide)) _ _).trans h.n,(Rt.au (ay h.m ha (by decide)) _ _).trans h.m,?_,h.ze.elim fun u hu=>⟨u,(Rt.au (ay hu ha (by decide)) _ _).trans hu⟩,h.rk.elim fun cs hc=>⟨cs,hc.1,(Rt.au (ay hc.2 ha (by decide)) _ _).trans hc.2⟩,h.re.elim fun cs hc=>⟨cs,hc.1,(Rt.au (Ne.symm h.nE) _ _).trans hc.2⟩,⟨mJ h.rows.left ha (by decide) _ _,mJ h.rows.join ha (by decide) _ _,mJ h.rows.item ha (by decide) _ _,mJ r1 ha (by decide) _ _,mJ r2 ha (by decide) _ _⟩,h.aK.setCell (p:=⟨A,j,none⟩) hA _,h.nK,h.nD,h.nE,h.gK,h.gD,h.gE⟩;have:=Rt.aO ha j u;rw [hc] at this;exact this
theorem tX.yes {t:Tr} {J:List Int} (h:b_ t L J=0) (hn:cZ t L J=n) (h1:Rw w w' vl vj vi vL vJ (fx t L J) (bO t L J) (fY t L J) L (bO t L J)) (h4:vl.ownBlock=none∨vl.ownBlock≠vj.ownBlock):
  tX w w' t L J (.returned (.tuple #[.agg (aC n),.agg #[.int .i64 (rZ t L J),vl,vj,vi],.agg #[.int .i64 n.ep,.int .i64 n.fr,vL,vJ],.int .i64 0])):=by
 have e:pW t L J=L:=by unfold pW;rw [if_pos h]
 refine ⟨vl,vj,vi,vL,vJ,?_,⟨h1.left,h1.join,h1.item,h4⟩,by rw [e];exact h1.lv,h1.jn⟩;unfold CA;rw [hn,h]
theorem lV (hg:W.grownBy W' none):Below W.heap.size W W':=⟨hg.os,hg.tape,hg.output,hg.size,fun k hk=>hg.block k hk (by simp)⟩
set_option maxRecDepth 100000 in
theorem Ci (t:Tr) (aL aJ:Option Addr) (cL cJ:Nat) (L J:List Int) (w:World) (sD:Tb w) (lL:L.length<1152921504606846976) (lJ:J.length<1152921504606846976) (hL:bM w aL L) (hJ:bM w aJ J):
  Calls prog 108 #[.agg (aC t),.agg #[.slice aL L.length cL,.slice aJ J.length cJ]] w fun e w'=>tX w w' t L J e∧Below w.heap.size w w':=by
 have hX:=SX.new w t aL aJ L.length J.length cL cJ;unfold cQ rz at hX;obtain ⟨ct,bQ⟩:∃c,aC t=c:=⟨_,rfl⟩;have HT:Hid (aC t=ct):=bQ;clear bQ;go_enter func108,ntmps108;go_upto_region 1 with (fail)
 rw [fu];generalize ((((w.alloc (.cells (aC t) 39)).alloc (.cells #[.slice aL L.length cL,.slice aJ J.length cJ] 43)).alloc (.cells (aC (tz 0)) 39)).alloc (.cells #[.int .i64 0,.slice none 0 0,.slice none 0 0,.slice none 0 0] 54)).alloc (.cells #[.int .i64 0,.int .i64 0,.slice none 0 0,.slice none 0 0] 70)=w1 at *;rw [HT.out];obtain ⟨E,hE⟩:∃D,w.heap.size+4=D:=⟨_,rfl⟩;obtain ⟨D,hD⟩:∃D,w.heap.size+3=D:=⟨_,rfl⟩;obtain ⟨K,hK⟩:∃D,w.heap.size+2=D:=⟨_,rfl⟩;obtain ⟨C,hC⟩:∃D,w.heap.size+1=D:=⟨_,rfl⟩;obtain ⟨B,hB⟩:∃D,w.heap.size=D:=⟨_,rfl⟩;rw [hE,hD,hK,hC,hB] at hX ⊢;clear hE hD hK hC hB;have h1:=v_ t aL aJ cL cJ L J w1 (sD.later hX.nx.tb.aK) lL lJ (hL.later hX.nx.tb.aK) (hJ.later hX.nx.tb.aK);unfold gF at h1;rw [HT.out] at h1;obtain ⟨n,hn⟩:∃n,cZ t L J=n:=⟨_,rfl⟩;obtain ⟨cn,f_⟩:∃c,aC n=c:=⟨_,rfl⟩;have HC:Hid (aC n=cn):=f_;have HN:Hid (cZ t L J=n):=hn;simp only [hn,f_] at h1;obtain ⟨e,he⟩:∃e,b_ t L J=e:=⟨_,rfl⟩;have HE:Hid (b_ t L J=e):=he;simp only [he] at h1;clear he hn;have jT:=hX.nx.tb.tr;obtain ⟨d0,d1⟩:=hX.nx.tb.bt.cells;go_wp2_with (refine pV jT HT.out _ rfl rfl rfl ?_)
 refine h1.mono ?_;rintro r w2 ⟨⟨vl,vj,vi,rfl,oK⟩,hb2⟩;have kV:=hX.later hb2;have Bx:Hid (w.heap.size≤w1.heap.size):=hX.nx.tb.aK.size;have g1:=oK.left;have g2:=oK.join;have g3:=oK.item;obtain ⟨a1,k1,rfl⟩:=ah g1;obtain ⟨a2,k2,rfl⟩:=ah g2;obtain ⟨a3,k3,rfl⟩:=ah g3;have rb:Hid (Value.ownBlock (.slice a1 (fx t L J).length k1)=none∨Value.ownBlock (.slice a1 (fx t L J).length k1)≠Value.ownBlock (.slice a2 (bO t L J).length k2)):=oK.apart;obtain ⟨t1,t2,W,hW,tT,tR,tB⟩:=cM w2 n cn #[.int .i64 (rZ t L J),.slice a1 (fx t L J).length k1,.slice a2 (bO t L J).length k2,.slice a3 (fY t L J).length k3] f_;have kG:=kV.later tB;have Mu:Hid (W.ownsRow w.heap.size 113 2 (.slice a1 (fx t L J).length k1) (fx t L J).length (ps (fx t L J))):=Rs.aV (ar g1 tB) Bx.out;have iP:Hid (W.ownsRow w.heap.size 113 2 (.slice a2 (bO t L J).length k2) (bO t L J).length (ps (bO t L J))):=Rs.aV (ar g2 tB) Bx.out;have oT:Hid (W.ownsRow w.heap.size 103 6 (.slice a3 (fY t L J).length k3) (fY t L J).length (kU (fY t L J))):=Rs.aV (ar g3 tB) Bx.out;have HNG:Hid (w2.heap.size≠K∧w2.heap.size+1≠D):=⟨fun h=>by have:=kV.nx.ze.lt;omega,fun h=>by have:=(Array.getElem?_eq_some_iff.1 kV.nx.rk).1;omega⟩;have HEW:Hid (E<w2.heap.size):=(Array.getElem?_eq_some_iff.1 kV.re).1;clear h1 hX kV jT hb2 d0 d1 oK g1 g2 g3 f_;go_upto_region 2 with (first | (refine eE t1 HC.out rfl _ _ rfl rfl rfl ?_) | (refine gN cS (cs:=cQ) bw t2 _ rfl (kx _ _ _ _ _ _ _ _ _ _) rfl _ _ rfl rfl rfl ?_))
 have HWS:Hid (w2.heap.size+2=W.heap.size):=by unfold Hid;rw [←hW];simp [World.setRow]
 clear t1 t2 hW tB;obtain ⟨G,hG⟩:∃G,w2.heap.size+1=G:=⟨_,rfl⟩;rw [hG] at tR HNG ⊢;have HGW:Hid (G<W.heap.size∧E<w2.heap.size):=⟨by have:=HWS.out;omega,HEW.out⟩;clear hG;generalize w2.heap.size=N at *;by_cases BP:e=0
 ·subst BP;have hst:=j9 HE.out;have hlL:L.length≤64:=hst.fit.CV;have HOL:Hid (pW t L J=L):=by unfold Hid pW;rw [if_pos HE.out]
  obtain ⟨c0,c1⟩:=tT.cells;go_upto_region 5 with (fail)
  have hA:=bh.new W #[.int .i64 n.ep,.int .i64 n.fr,.slice none 0 0,.slice none 0 0];have Dl:=aa W (.cells #[.int .i64 n.ep,.int .i64 n.fr,.slice none 0 0,.slice none 0 0] 70);have Gi:=kG.later Dl;have tT4:=tT.later Dl;have tR4:=br tR Dl;have ab7:Hid _:=ar Mu.out Dl;have ab6:Hid _:=ar iP.out Dl;have ab5:Hid _:=ar oT.out Dl;have HAE:Hid (W.heap.size≠E):=fun h=>by have:=(Array.getElem?_eq_some_iff.1 kG.re).1;omega
  clear kG tT tR Mu iP oT c0 c1 Dl;generalize hwA:W.alloc (.cells #[.int .i64 n.ep,.int .i64 n.fr,.slice none 0 0,.slice none 0 0] 70)=wA at *;clear hwA;generalize W.heap.size=A at *;obtain ⟨r0,r1,r2,r3⟩:=hA.cells;obtain ⟨d0,d1⟩:=Gi.nx.tb.bt.cells;have hrL:=hL.later Gi.nx.tb.aK;have acX:w.heap.size≤wA.heap.size:=Gi.nx.tb.aK.size
  have hSF:SF w wA N G A K D E n #[.int .i64 (rZ t L J),.slice a1 (fx t L J).length k1,.slice a2 (bO t L J).length k2,.slice a3 (fY t L J).length k3] #[.int .i64 n.ep,.int .i64 n.fr,.slice none 0 0,.slice none 0 0] (.slice a1 (fx t L J).length k1) (.slice a2 (bO t L J).length k2) (.slice a3 (fY t L J).length k3) (.slice none 0 0) (.slice none 0 0) (fx t L J) (bO t L J) (fY t L J) [] []:=
   ⟨tT4,tR4,hA,⟨_,Gi.nx.ze⟩,⟨cQ,rfl,Gi.nx.rk⟩,⟨rz,rfl,Gi.re⟩,⟨ab7.out,ab6.out,ab5.out,World.ownsRow_nil _ _ _ _,World.ownsRow_nil _ _ _ _⟩,Gi.nx.tb.aK,HNG.out.1,HNG.out.2,HAE.out,Gi.nx.gK,Gi.nx.gD,Gi.gE⟩
  have HGA:Hid (w.heap.size≤A):=by have h1:=HGW.out;have h2:=Gi.gE;have h3:=HWS.out;unfold Hid;omega
  have Em:Hid ((bO t L J).length≤64):=by
   unfold Hid bO;rw [if_pos HE.out];unfold kF;rw [Rs.bX];exact hst.fit.CW
  have HSF:Hid _:=hSF;have ac3:L.length * 8≤140737488355328:=by omega
  have ac2:0+L.length≤maxLen:=by unfold maxLen;omega
  clear hst hlL lL lJ hSF hA Gi tT4 tR4 ab7 ab6 ab5 HNG HAE HGW HWS HEW
  have HZ:Hid (∀W',wA.grownBy W' (Value.slice none 0 0).ownBlock→W'.cell? ⟨A,2,none⟩=some (.slice none 0 0)∧W'.frozen? ⟨A,2,none⟩=false):=fun W' hg=>by
   have h:=(HSF.out.later (lV hg)).a;exact ⟨h.cells.2.2.1,Rt.ax h 2⟩
  go_upto_region 6 with (at_builtin;(refine Rs.LX rfl _ _ rfl wA.heap.size (.slice none 0 0) 0 [] rfl (World.ownsRow_nil _ _ _ _) aL cL L rfl hrL ac2 (by rw [Nat.zero_add];exact ac3) (Nat.le_refl _) ?_);intro v5 w5 iv Sq;rw [Nat.zero_add,List.nil_append] at iv;obtain ⟨a5,k5,rfl⟩:=ah iv;have HO5:Hid (w5.ownsRow wA.heap.size 3 1 (.slice a5 L.length k5) L.length (cq L)):=iv;have BW:Hid (wA.grownBy w5 (Value.slice none 0 0).ownBlock):=Sq;obtain ⟨z2,zf⟩:=HZ.out w5 Sq;clear iv Sq)
  have dT:Below wA.heap.size wA w5:=lV BW.out;have xM:=HSF.out.later dT;have HO6:Hid (w5.ownsRow w.heap.size 3 1 (.slice a5 L.length k5) L.length (cq L)):=Rs.aV HO5.out acX;have Ls:=xM.aaD HGA.out 2 (.slice a5 L.length k5) rfl HO6.out xM.rows.jn;clear HSF xM HO5 HO6 z2 zf hrL d0 d1 dT BW HZ r0 r1 r2 r3;generalize w5.setCell ⟨A,2,none⟩ (.slice a5 L.length k5)=w6 at *;obtain ⟨r0,r1,r2,r3⟩:=Ls.a.cells;obtain ⟨q0,q1,q2,q3⟩:=JQ Ls.m;have hrJ:=rT Ls.rows.join;have yo:Hid (w.heap.size≤w6.heap.size):=Ls.aK.size;have HSF:Hid _:=Ls;clear Ls;have mi:=Em.out
  have HZ:Hid (∀W',w6.grownBy W' (Value.slice none 0 0).ownBlock→W'.cell? ⟨A,3,none⟩=some (.slice none 0 0)∧W'.frozen? ⟨A,3,none⟩=false):=fun W' hg=>by
   have h:=(HSF.out.later (lV hg)).a;exact ⟨h.cells.2.2.2,Rt.ax h 3⟩
  go_upto_region 7 with (at_builtin;(refine G5 rfl _ _ rfl w6.heap.size (.slice none 0 0) 0 [] rfl (World.ownsRow_nil _ _ _ _) a2 k2 (bO t L J) rfl hrJ (by unfold maxLen;omega) (by omega) (Nat.le_refl _) ?_);intro v7 w7 iv Sq;rw [Nat.zero_add,List.nil_append] at iv;obtain ⟨a7,k7,rfl⟩:=ah iv;have HO5:Hid (w7.ownsRow w6.heap.size 113 2 (.slice a7 (bO t L J).length k7) (bO t L J).length (ps (bO t L J))):=iv;have BW:Hid (w6.grownBy w7 (Value.slice none 0 0).ownBlock):=Sq;obtain ⟨z2,zf⟩:=HZ.out w7 Sq;clear iv Sq)
  have dT:Below w6.heap.size w6 w7:=lV BW.out;have xM:=HSF.out.later dT;have HO6:Hid (w7.ownsRow w.heap.size 113 2 (.slice a7 (bO t L J).length k7) (bO t L J).length (ps (bO t L J))):=Rs.aV HO5.out yo.out;have abu:=xM.aaD HGA.out 3 (.slice a7 (bO t L J).length k7) rfl xM.rows.lv HO6.out;clear HSF xM HO5 z2 zf hrJ q0 q1 q2 q3 dT BW HZ r0 r1 r2 r3;generalize w7.setCell ⟨A,3,none⟩ (.slice a7 (bO t L J).length k7)=w8 at *;obtain ⟨rk,Pv⟩:∃c:Array Value,#[.int .i64 (rZ t L J),.slice a1 (fx t L J).length k1,.slice a2 (bO t L J).length k2,.slice a3 (fY t L J).length k3]=c:=⟨_,rfl⟩;have dm:=abu.later (aG w8);rw [Pv] at dm;have RO:Hid (rk.size=4):=by rw [←Pv];rfl
  have adx:Hid (rk.all (·.oneCell')=true):=by unfold Hid;rw [←Pv];exact kx _ _ _ _ _ _ _ _ _ _
  have HRK:Hid (#[.int .i64 (rZ t L J),.slice a1 (fx t L J).length k1,.slice a2 (bO t L J).length k2,.slice a3 (fY t L J).length k3]=rk):=Pv;clear abu Pv HO6;refine wp_region_held_drew (S:=fun X=>SF w X N G A K D E n rk #[.int .i64 n.ep,.int .i64 n.fr,.slice a5 L.length k5,.slice a7 (bO t L J).length k7] (.slice a1 (fx t L J).length k1) (.slice a2 (bO t L J).length k2) (.slice a3 (fY t L J).length k3) (.slice a5 L.length k5) (.slice a7 (bO t L J).length k7) (fx t L J) (bO t L J) (fY t L J) L (bO t L J)) (by kernel_rfl) dm (fun hHeld=>?_);refine dG 0 (.agg cn) rfl (fun w hSw=>bB (HC.out ▸ hSw.n.whole) rfl rfl) ?_;go_frame;refine dG 1 (.agg rk) rfl (fun w hSw=>bB (RkW hSw.m RO.out) rfl rfl) ?_;go_frame;refine dG 2 (.agg #[.int .i64 n.ep,.int .i64 n.fr,.slice a5 L.length k5,.slice a7 (bO t L J).length k7]) rfl (fun w hSw=>bB (RcW hSw.a rfl) rfl rfl) ?_;go_frame;refine dh 3 rfl fun Kc hK=>?_;obtain ⟨u,hu⟩:=hHeld.ze;obtain ⟨EG,AR⟩:=hHeld.Kl HC.out;refine iu rfl (bR 39 _ _ rfl K cn rfl rfl 39 (aC u) hu (by rw [←HC.out,aZ];exact jz) (by rw [←HC.out,aZ,aZ]) (by rw [←HC.out];exact j5 n) rfl ?_);refine hK.out _ _ EG (fun aD=>?_);clear hHeld hu EG;clear hK Kc;try go_frame
  refine dh 4 rfl fun Kc hK=>?_;obtain ⟨Zx,PZ,Dq⟩:=aD.rk;obtain ⟨Dr,I0,WA⟩:=aD.Km (ds:=rk) AR Dq RO.out;refine iu rfl (bR 54 _ _ rfl D rk rfl rfl 54 Zx Dq (by rw [RO.out];exact cS) (by rw [PZ,RO.out]) adx.out rfl ?_);refine hK.out _ _ Dr (fun aN=>?_);clear aD Dq Dr;clear hK Kc;try go_frame
  refine dh 5 rfl fun Kc hK=>?_;obtain ⟨cs5,hc5,hRe⟩:=aN.re;obtain ⟨hN5,P5,hR5,hE5⟩:=aN.acn (ds:=#[.int .i64 n.ep,.int .i64 n.fr,.slice a5 L.length k5,.slice a7 (bO t L J).length k7]) I0 WA hRe rfl;refine iu rfl (bR 70 _ _ rfl E _ rfl rfl 70 cs5 hRe gY hc5 (mG _ _ _ _ _ _ _ _) rfl ?_);refine hK.out _ _ hN5 (fun bK=>?_);clear aN hRe hN5;clear hK Kc;try go_frame
  refine aH 6 (.int .i64 0) rfl ?_;go_frame;refine wpAnyH_done (by kernel_rfl) ?_ _;obtain ⟨w9,hw9⟩:∃W9,(((w8.drew.setRow K cn).setRow D rk).setRow E #[.int .i64 n.ep,.int .i64 n.fr,.slice a5 L.length k5,.slice a7 (bO t L J).length k7])=W9:=⟨_,rfl⟩;rw [hw9] at P5 hR5 hE5 bK ⊢;clear hw9 AR I0 WA;go_wp2_with fail
  refine bodyPost_ret (vz (p:=4) (q:=5) (r:=6) (t:=7) rfl _ _ K D E n rk _ rfl rfl rfl P5 hR5 RO.out hE5 rfl) rfl ?_;refine ⟨?_,bK.aK⟩;rw [←HRK.out];exact tX.yes HE.out HN.out bK.rows rb.out
 ·have Ww:(e !=0)=true:=by simpa using BP
  have l8:Hid (e≠0):=BP;have hX:=kG.nx;have hZ:=kG.nx.ze;obtain ⟨cz,fW⟩:∃c,aC (tz 0)=c:=⟨_,rfl⟩;have HZ:Hid (aC (tz 0)=cz):=fW;have gy:=kG.nx.Nf (tz 0) fW;have Xf:Hid (az (((W.setRow K cz).setRow D cQ).setRow E rz) K (tz 0)∧b7 (((W.setRow K cz).setRow D cQ).setRow E rz) D cQ):=⟨(Rt.aq (ay kG.nx.ze kG.re (by decide)) _).trans ((Rt.aq (ay gy.1 gy.2.1 (by decide)) _).trans gy.1),(Rt.aq (ay kG.nx.rk kG.re (by decide)) _).trans (Rt.ai gy.2.1 _)⟩;have hZ3:bh ((W.setRow K cz).setRow D cQ) E rz:=(Rt.aq (ay kG.re kG.nx.rk (by decide)) _).trans ((Rt.aq (ay kG.re kG.nx.ze (by decide)) _).trans kG.re);have BV:Hid (w.heap.size≤E):=kG.gE;clear fW BP kG tT tR Mu iP oT;go_wp2_with (first | (refine Jy HZ.out rfl rfl ?_) | (refine eE hZ HZ.out rfl _ _ rfl rfl rfl ?_) | (refine gN cS (cs:=cQ) bw gy.2.1 cQ bw j8 rfl _ _ rfl rfl rfl ?_) | (refine gN gY (cs:=rz) rfl hZ3 rz rfl Ns rfl _ _ rfl rfl rfl ?_))
  refine bodyPost_ret (vz (p:=4) (q:=5) (r:=6) (t:=7) rfl _ _ K D E (tz 0) cQ rz rfl rfl rfl Xf.out.1 Xf.out.2 rfl (Rt.ai hZ3 _) rfl) rfl ?_;exact ⟨tX.no HE.out l8.out,Rt.ag BV.out (Rt.ag hX.gD gy.2.2 _) _⟩
open Rs (bM iC ps Tb cq ar ah aP)
theorem Cc (w:World) (u:Tr) (c cs ds:Array Value) (hc:aC u=c):
  az (((w.alloc (.cells zeroCells39 39)).alloc (.cells #[.int .i64 0,.slice none 0 0,.slice none 0 0,.slice none 0 0] 54)).alloc (.cells #[.int .i64 0,.int .i64 0,.slice none 0 0,.slice none 0 0] 70)) w.heap.size (tz 0)
  ∧b7 ((((w.alloc (.cells zeroCells39 39)).alloc (.cells #[.int .i64 0,.slice none 0 0,.slice none 0 0,.slice none 0 0] 54)).alloc (.cells #[.int .i64 0,.int .i64 0,.slice none 0 0,.slice none 0 0] 70)).setRow w.heap.size c) (w.heap.size+1) cQ
  ∧bh (((((w.alloc (.cells zeroCells39 39)).alloc (.cells #[.int .i64 0,.slice none 0 0,.slice none 0 0,.slice none 0 0] 54)).alloc (.cells #[.int .i64 0,.int .i64 0,.slice none 0 0,.slice none 0 0] 70)).setRow w.heap.size c).setRow (w.heap.size+1) cs) (w.heap.size+2) rz
  ∧∃W,(((((w.alloc (.cells zeroCells39 39)).alloc (.cells #[.int .i64 0,.slice none 0 0,.slice none 0 0,.slice none 0 0] 54)).alloc (.cells #[.int .i64 0,.int .i64 0,.slice none 0 0,.slice none 0 0] 70)).setRow w.heap.size c).setRow (w.heap.size+1) cs).setRow (w.heap.size+2) ds=W∧az W w.heap.size u∧b7 W (w.heap.size+1) cs∧bh W (w.heap.size+2) ds∧Below w.heap.size w W:=by
 rw [ot];have a1:=az.new w (tz 0);have b1:=cG w (tz 0);have s1:(w.alloc (.cells (aC (tz 0)) 39)).heap.size=w.heap.size+1:=World.size_alloc _ _;generalize w.alloc (.cells (aC (tz 0)) 39)=w1 at *;have a2:=heap_alloc_last w1 (.cells #[.int .i64 0,.slice none 0 0,.slice none 0 0,.slice none 0 0] 54);have b2:=aa w1 (.cells #[.int .i64 0,.slice none 0 0,.slice none 0 0,.slice none 0 0] 54);have s2:(w1.alloc (.cells #[.int .i64 0,.slice none 0 0,.slice none 0 0,.slice none 0 0] 54)).heap.size=w1.heap.size+1:=World.size_alloc _ _;rw [s1] at a2;generalize w1.alloc (.cells #[.int .i64 0,.slice none 0 0,.slice none 0 0,.slice none 0 0] 54)=w2 at *;have a3:=heap_alloc_last w2 (.cells #[.int .i64 0,.int .i64 0,.slice none 0 0,.slice none 0 0] 70);have b3:=aa w2 (.cells #[.int .i64 0,.int .i64 0,.slice none 0 0,.slice none 0 0] 70);rw [show w2.heap.size=w.heap.size+2 by omega] at a3;have s3:(w2.alloc (.cells #[.int .i64 0,.int .i64 0,.slice none 0 0,.slice none 0 0] 70)).heap.size=w2.heap.size+1:=World.size_alloc _ _;have t1:=(a1.later b2).later b3;have t2:b7 _ (w.heap.size+1) cQ:=br a2 b3;have t3:bh _ (w.heap.size+2) rz:=a3;have hb:Below w.heap.size w (w2.alloc (.cells #[.int .i64 0,.int .i64 0,.slice none 0 0,.slice none 0 0] 70)):=(b1.trans (b2.mono (by omega))).trans (b3.mono (by omega));clear a1 a2 a3 b1 b2 b3;generalize w2.alloc (.cells #[.int .i64 0,.int .i64 0,.slice none 0 0,.slice none 0 0] 70)=W at *;subst hc;have h2:b7 (W.setRow w.heap.size (aC u)) (w.heap.size+1) cQ:=(Rt.aq (by omega) _).trans t2;have h3:bh ((W.setRow w.heap.size (aC u)).setRow (w.heap.size+1) cs) (w.heap.size+2) rz:=(Rt.aq (by omega) _).trans ((Rt.aq (by omega) _).trans t3);refine ⟨t1,h2,h3,_,rfl,?_,?_,Rt.ai h3 _,Rt.ag (by omega) (Rt.ag (by omega) (Rt.ag (by omega) hb _) _) _⟩
 ·exact (Rt.aq (by omega) _).trans ((Rt.aq (by omega) _).trans (t1.row u))
 ·exact (Rt.aq (by omega) _).trans (Rt.ai h2 _)
def OfA (w w':World) (t:Tr) (L J:List Int) (e:Ending):Prop:=∃vL vJ,e=.returned (.tuple #[.agg (CA t L J vL vJ),.int .i64 (b_ t L J)])∧Z5 w w' t L J vL vJ
set_option maxRecDepth 100000 in
theorem Yg (t:Tr) (aL aJ:Option Addr) (cL cJ:Nat) (L J:List Int) (w:World) (sD:Tb w) (lL:L.length<1152921504606846976) (lJ:J.length<1152921504606846976) (hL:bM w aL L) (hJ:bM w aJ J):
  Calls prog 72 #[.agg (aC t),.agg #[.slice aL L.length cL,.slice aJ J.length cJ]] w fun e w'=>OfA w w' t L J e∧Below w.heap.size w w':=by
 have hX:=(TB.new w t aL aJ L.length J.length cL cJ).later (aa _ (.cells #[.int .i64 0,.int .i64 0,.slice none 0 0,.slice none 0 0] 70));have jU:=bh.new ((w.alloc (.cells (aC t) 39)).alloc (.cells #[.slice aL L.length cL,.slice aJ J.length cJ] 43)) #[.int .i64 0,.int .i64 0,.slice none 0 0,.slice none 0 0];rw [World.size_alloc,World.size_alloc] at jU;obtain ⟨ct,bQ⟩:∃c,aC t=c:=⟨_,rfl⟩;have HT:Hid (aC t=ct):=bQ;clear bQ;go_enter func72,ntmps72;go_upto_region 1 with (fail)
 generalize ((w.alloc (.cells (aC t) 39)).alloc (.cells #[.slice aL L.length cL,.slice aJ J.length cJ] 43)).alloc (.cells #[.int .i64 0,.int .i64 0,.slice none 0 0,.slice none 0 0] 70)=w1 at *;rw [HT.out];obtain ⟨E,hE⟩:∃D,w.heap.size+1+1=D:=⟨_,rfl⟩;obtain ⟨C,hC⟩:∃D,w.heap.size+1=D:=⟨_,rfl⟩;obtain ⟨B,hB⟩:∃D,w.heap.size=D:=⟨_,rfl⟩;try rw [show w.heap.size+2=w.heap.size+1+1 from rfl]
 have BV:Hid (w.heap.size≤E):=by unfold Hid;omega
 rw [hE] at jU ⊢;rw [hC,hB] at hX ⊢;clear hE hC hB;have h1:=Ci t aL aJ cL cJ L J w1 (sD.later hX.aK) lL lJ (hL.later hX.aK) (hJ.later hX.aK);unfold tX at h1;rw [HT.out] at h1;obtain ⟨n,hn⟩:∃n,cZ t L J=n:=⟨_,rfl⟩;obtain ⟨cn,f_⟩:∃c,aC n=c:=⟨_,rfl⟩;have HC:Hid (aC n=cn):=f_;unfold CA at h1;simp only [hn,f_] at h1;obtain ⟨e,he⟩:∃e,b_ t L J=e:=⟨_,rfl⟩;have HE:Hid (b_ t L J=e):=he;have HN:Hid (cZ t L J=n):=hn;simp only [he] at h1;clear he hn;have jT:=hX.tr;obtain ⟨d0,d1⟩:=hX.bt.cells;go_wp2_with (refine pV jT HT.out _ rfl rfl rfl ?_)
 refine h1.mono ?_;rintro r w2 ⟨⟨vl,vj,vi,vL,vJ,rfl,oK,Lt⟩,hb2⟩;have Bx:Hid (w.heap.size≤w1.heap.size):=hX.aK.size;have bm:Hid (Below w.heap.size w w2):=hX.aK.trans (hb2.mono hX.aK.size);have oz:=jU.later hb2;obtain ⟨a1,k1,rfl⟩:=ah oK.left;obtain ⟨a2,k2,rfl⟩:=ah oK.join;obtain ⟨a3,k3,rfl⟩:=ah oK.item;obtain ⟨a4,k4,rfl⟩:=ah Lt.lv;obtain ⟨a5,k5,rfl⟩:=ah Lt.jn;obtain ⟨t1,t2,t3,W,hW,tT,tR,tC,tB⟩:=Cc w2 n cn #[.int .i64 (rZ t L J),.slice a1 (fx t L J).length k1,.slice a2 (bO t L J).length k2,.slice a3 (fY t L J).length k3] #[.int .i64 n.ep,.int .i64 n.fr,.slice a4 (pW t L J).length k4,.slice a5 (bO t L J).length k5] f_;have xN:=oz.later tB;have fE:Hid (Below w.heap.size w W):=bm.out.trans (tB.mono bm.out.size);have HLV:Hid (W.ownsRow w.heap.size 3 1 (.slice a4 (pW t L J).length k4) (pW t L J).length (cq (pW t L J))):=Rs.aV (ar Lt.lv tB) Bx.out;have HJN:Hid (W.ownsRow w.heap.size 113 2 (.slice a5 (bO t L J).length k5) (bO t L J).length (ps (bO t L J))):=Rs.aV (ar Lt.jn tB) Bx.out;clear h1 hX jT hb2 d0 d1 oK Lt f_ tB jU oz;go_upto_region 2 with (first | (show wpList _ _ _ ({dst:=_,op:=Op.store 39 _ _,type:=_,pos:=_,after:=_,guard:=_}::_) _ _;refine eE t1 HC.out rfl _ _ rfl rfl rfl ?_) | (show wpList _ _ _ ({dst:=_,op:=Op.store 54 _ _,type:=_,pos:=_,after:=_,guard:=_}::_) _ _;refine gN cS (cs:=cQ) bw t2 _ rfl (kx _ _ _ _ _ _ _ _ _ _) rfl _ _ rfl rfl rfl ?_) | (show wpList _ _ _ ({dst:=_,op:=Op.store 70 _ _,type:=_,pos:=_,after:=_,guard:=_}::_) _ _;refine gN gY (cs:=rz) rfl t3 _ rfl (mG _ _ _ _ _ _ _ _) rfl _ _ rfl rfl rfl ?_))
 clear t1 t2 t3 hW;obtain ⟨A,hA⟩:∃A,w2.heap.size+2=A:=⟨_,rfl⟩;rw [hA] at tC ⊢;clear hA;obtain ⟨r0,r1,r2,r3⟩:=tC.cells;go_wp2_with (refine gN gY (cs:=rz) rfl xN #[.int .i64 n.ep,.int .i64 n.fr,.slice a4 (pW t L J).length k4,.slice a5 (bO t L J).length k5] rfl (mG _ _ _ _ _ _ _ _) rfl _ _ rfl rfl rfl ?_)
 refine bodyPost_ret (gO (p:=4) (t:=5) rfl _ _ E _ rfl (Rt.ai xN _) rfl) rfl ?_;refine ⟨⟨_,_,?_,aP HLV.out xN (by decide) _,aP HJN.out xN (by decide) _⟩,Rt.ag BV.out fE.out _⟩;unfold CA;rw [HN.out,HE.out];rfl
end Go.Proofs.YtanaapfobpgibaaGreatDoor.Rc
