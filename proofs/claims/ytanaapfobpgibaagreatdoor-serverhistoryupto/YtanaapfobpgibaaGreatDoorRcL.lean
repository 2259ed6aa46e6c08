/- Contract: Play. -/
import Derived.Test.YtanaapfobpgibaaGreatDoorJRcK
open Go.Proofs.Tryz
namespace Go.Proofs.YtanaapfobpgibaaGreatDoor.Rc
open Go.RowKit Go.Maps Go.Great
open Rs (bM cell_later ps eA Tb cq ar ah aP)
set_option linter.unusedVariables false
set_option linter.unusedSimpArgs false
/- What Play answers. -/
variable {w w':World} {t:Tr} {e f:Int} {L:List Int} {J:List (Int×Int)} {B:Nat}
def gU (t:Tr) (e f:Int) (L:List Int) (J:List (Int×Int)):Int:=
 if gu t then (if b_ t L (ws J)=0 then (if Kq (cZ t L (ws J)).ep (cZ t L (ws J)).fr L (bO t L (ws J)) e f L J then 0 else 12) else 12) else 31
def CH (t:Tr) (e f:Int) (L:List Int) (J:List (Int×Int)):Tr:=if gU t e f L J=0 then cZ t L (ws J) else tz 0
def KQ (t:Tr) (e f:Int) (L:List Int) (J:List (Int×Int)):Int:=if gU t e f L J=0 then rZ t L (ws J) else 0
def KR (t:Tr) (e f:Int) (L:List Int) (J:List (Int×Int)):List (Int×Int):=if gU t e f L J=0 then fx t L (ws J) else []
def KS (t:Tr) (e f:Int) (L:List Int) (J:List (Int×Int)):List (Int×Int):=if gU t e f L J=0 then bO t L (ws J) else []
def KT (t:Tr) (e f:Int) (L:List Int) (J:List (Int×Int)):List It:=if gU t e f L J=0 then fY t L (ws J) else []
structure tY (w w':World) (ll lj:List (Int×Int)) (li:List It) (vl vj vi:Value):Prop where
 left:w'.ownsRow w.heap.size 113 2 vl ll.length (ps ll)
 join:w'.ownsRow w.heap.size 113 2 vj lj.length (ps lj)
 item:w'.ownsRow w.heap.size 103 6 vi li.length (kU li)
def mg (w w':World) (t:Tr) (e f:Int) (L:List Int) (J:List (Int×Int)) (r:Ending):Prop:=∃vl vj vi,r=.returned (.tuple #[.agg (aC (CH t e f L J)),.agg #[.int .i64 (KQ t e f L J),vl,vj,vi],.int .i64 (gU t e f L J)])∧tY w w' (KR t e f L J) (KS t e f L J) (KT t e f L J) vl vj vi
theorem mg.no {E:Int} (h:gU t e f L J=E) (h0:E≠0):mg w w' t e f L J (.returned (.tuple #[.agg (aC (tz 0)),.agg cQ,.int .i64 E])):=by
 refine ⟨.slice none 0 0,.slice none 0 0,.slice none 0 0,?_,?_,?_,?_⟩
 ·unfold CH KQ;rw [h,if_neg h0,if_neg h0];rfl
 ·unfold KR;rw [h,if_neg h0];exact World.ownsRow_nil _ _ _ _
 ·unfold KS;rw [h,if_neg h0];exact World.ownsRow_nil _ _ _ _
 ·unfold KT;rw [h,if_neg h0];exact World.ownsRow_nil _ _ _ _
theorem mg.yes {n:Tr} {vl vj vi:Value} (h:gU t e f L J=0) (hn:cZ t L (ws J)=n) (h1:tY w w' (fx t L (ws J)) (bO t L (ws J)) (fY t L (ws J)) vl vj vi):mg w w' t e f L J (.returned (.tuple #[.agg (aC n),.agg #[.int .i64 (rZ t L (ws J)),vl,vj,vi],.int .i64 0])):=by
 refine ⟨vl,vj,vi,?_,?_⟩
 ·unfold CH KQ;rw [h,if_pos rfl,if_pos rfl,hn]
 ·unfold KR KS KT;rw [h,if_pos rfl,if_pos rfl,if_pos rfl];exact h1
/- The arguments, boxed, and the answer's places; what comes later lies from s0 on. -/
structure PX (w X:World) (s0 B C K D:Nat) (t:Tr) (rc:Array Value):Prop where
 tr:az X B t
 rc:bh X C rc
 ze:az X K (tz 0)
 rk:b7 X D cQ
 aK:Below w.heap.size w X
 gK:w.heap.size≤K
 gD:w.heap.size≤D
 gs:w.heap.size≤s0
 lt:B<s0∧C<s0∧K<s0∧D<s0
 sz:s0≤X.heap.size
theorem PX.later {w X Y:World} {s0 B C K D:Nat} {t:Tr} {rc:Array Value} (h:PX w X s0 B C K D t rc) (hb:Below X.heap.size X Y):PX w Y s0 B C K D t rc:=
 ⟨h.tr.later hb,h.rc.later hb,h.ze.later hb,br h.rk hb,h.aK.trans (hb.mono h.aK.size),h.gK,h.gD,h.gs,h.lt,Nat.le_trans h.sz hb.size⟩
theorem PX.set {X:World} {s0 C K D:Nat} {rc:Array Value} (h:PX w X s0 B C K D t rc) {M:Nat} (hM:s0≤M) (ds:Array Value):PX w (X.setRow M ds) s0 B C K D t rc:=by
 obtain ⟨l1,l2,l3,l4⟩:=h.lt;have ry:=h.gs;exact ⟨(Rt.aq (by omega) _).trans h.tr,(Rt.aq (by omega) _).trans h.rc,(Rt.aq (by omega) _).trans h.ze,(Rt.aq (by omega) _).trans h.rk,Rt.ag (by omega) h.aK _,h.gK,h.gD,h.gs,h.lt,by have:=h.sz;simpa [World.setRow] using this⟩
theorem PX.new (w:World) (t:Tr) (rc:Array Value):PX w ((((w.alloc (.cells (aC t) 39)).alloc (.cells rc 70)).alloc (.cells (aC (tz 0)) 39)).alloc (.cells cQ 54)) (w.heap.size+4) w.heap.size (w.heap.size+1) (w.heap.size+2) (w.heap.size+3) t rc:=by
 have a1:=az.new w t;have b1:=cG w t;have s1:(w.alloc (.cells (aC t) 39)).heap.size=w.heap.size+1:=World.size_alloc _ _;generalize w.alloc (.cells (aC t) 39)=w1 at *;have a2:=bh.new w1 rc;have b2:=aa w1 (.cells rc 70);have s2:(w1.alloc (.cells rc 70)).heap.size=w1.heap.size+1:=World.size_alloc _ _;rw [s1] at a2;generalize w1.alloc (.cells rc 70)=w2 at *;have a3:=az.new w2 (tz 0);have b3:=cG w2 (tz 0);have s3:(w2.alloc (.cells (aC (tz 0)) 39)).heap.size=w2.heap.size+1:=World.size_alloc _ _;rw [show w2.heap.size=w.heap.size+2 by omega] at a3;generalize w2.alloc (.cells (aC (tz 0)) 39)=w3 at *;have a4:b7 (w3.alloc (.cells cQ 54)) w3.heap.size cQ:=heap_alloc_last w3 _;have b4:=aa w3 (.cells cQ 54);have s4:(w3.alloc (.cells cQ 54)).heap.size=w3.heap.size+1:=World.size_alloc _ _;rw [show w3.heap.size=w.heap.size+3 by omega] at a4;exact ⟨((a1.later b2).later b3).later b4,(a2.later b3).later b4,a3.later b4,a4,((b1.trans (b2.mono (by omega))).trans (b3.mono (by omega))).trans (b4.mono (by omega)),by omega,by omega,by omega,by omega,by omega⟩
theorem acL {P:Program} {md:Region.Mode} {ops:Array Oper} {Q:Exit→Act→World→Prop} {S:World→Prop} {n:Nat} {l:Array Bool} {a:Act} 
  (h:∀G:Nat→Array Bool→Act→World→Prop,G=wpAnyH P md ops Q S→∀A0,A0=a→G n l A0 w):wpAnyH P md ops Q S n l a w:=h _ rfl _ rfl
/- Region 7. -/
structure PY (w W:World) (N G K D:Nat) (n:Tr) (rk:Array Value) (vl vj vi:Value) (ll lj:List (Int×Int)) (li:List It):Prop where
 n:az W N n
 m:b7 W G rk
 ze:∃u,az W K u
 rk:∃cs,cs.size=4∧b7 W D cs
 rows:tY w W ll lj li vl vj vi
 aK:Below w.heap.size w W
 nK:N≠K
 nD:G≠D
 gK:w.heap.size≤K
 gD:w.heap.size≤D
section
variable {w W W':World} {N G K D:Nat} {n u:Tr} {rk cs ds c:Array Value} {vl vj vi:Value} {ll lj:List (Int×Int)} {li:List It}
theorem tY.row (h:tY w W ll lj li vl vj vi) {T:TypeId} (hB:W.heap[B]? =some (.cells cs T (0,0))) (h1:113≠T) (h2:103≠T) (ds:Array Value):tY w (W.setRow B ds) ll lj li vl vj vi:=
 ⟨aP h.left hB h1 ds,aP h.join hB h1 ds,aP h.item hB h2 ds⟩
theorem PY.later (h:PY w W N G K D n rk vl vj vi ll lj li) (hb:Below W.heap.size W W'):PY w W' N G K D n rk vl vj vi ll lj li:=
 ⟨h.n.later hb,br h.m hb,h.ze.elim fun u hu=>⟨u,hu.later hb⟩,h.rk.elim fun cs hc=>⟨cs,hc.1,br hc.2 hb⟩,⟨ar h.rows.left hb,ar h.rows.join hb,ar h.rows.item hb⟩,h.aK.trans (hb.mono h.aK.size),h.nK,h.nD,h.gK,h.gD⟩
theorem PY.Kl (h:PY w W N G K D n rk vl vj vi ll lj li) (hc:aC n=c):PY w (W.setRow K c) N G K D n rk vl vj vi ll lj li∧az (W.setRow K c) K n:=by
 subst hc;obtain ⟨u,hu⟩:=h.ze;have h1:=hu.row n;exact ⟨⟨(Rt.aq h.nK _).trans h.n,(Rt.aq (ay h.m hu (by decide)) _).trans h.m,⟨n,h1⟩,h.rk.elim fun cs hc=>⟨cs,hc.1,(Rt.aq (ay hc.2 hu (by decide)) _).trans hc.2⟩,h.rows.row hu (by decide) (by decide) _,Rt.ag h.gK h.aK _,h.nK,h.nD,h.gK,h.gD⟩,h1⟩
theorem PY.Km (h:PY w W N G K D n rk vl vj vi ll lj li) (hu:az W K u) (hd:b7 W D cs) (h4:ds.size=4):PY w (W.setRow D ds) N G K D n rk vl vj vi ll lj li∧az (W.setRow D ds) K u∧b7 (W.setRow D ds) D ds:=
 ⟨⟨(Rt.aq (ay h.n hd (by decide)) _).trans h.n,(Rt.aq h.nD _).trans h.m,⟨u,(Rt.aq (ay hu hd (by decide)) _).trans hu⟩,⟨ds,h4,Rt.ai hd _⟩,h.rows.row hd (by decide) (by decide) _,Rt.ag h.gD h.aK _,h.nK,h.nD,h.gK,h.gD⟩,(Rt.aq (ay hu hd (by decide)) _).trans hu,Rt.ai hd _⟩
end
/- What a step answered, as two rows. -/
def Rq (w X:World) (ll lj:List (Int×Int)) (li:List It) (lo:List Int) (p:Int) (n:Tr) (cm cr:Array Value):Prop:=
 ∃a1 k1 a2 k2 a3 k3 a4 k4 a5 k5,cm=#[.int .i64 p,.slice a1 ll.length k1,.slice a2 lj.length k2,.slice a3 li.length k3]∧cr=#[.int .i64 n.ep,.int .i64 n.fr,.slice a4 lo.length k4,.slice a5 lj.length k5]∧Rw w X (.slice a1 ll.length k1) (.slice a2 lj.length k2) (.slice a3 li.length k3) (.slice a4 lo.length k4) (.slice a5 lj.length k5) ll lj li lo lj
theorem Rq.later {w X Y:World} {ll lj:List (Int×Int)} {li:List It} {lo:List Int} {p:Int} {n:Tr} {cm cr:Array Value} (h:Rq w X ll lj li lo p n cm cr) (hb:Below X.heap.size X Y):Rq w Y ll lj li lo p n cm cr:=by
 obtain ⟨a1,k1,a2,k2,a3,k3,a4,k4,a5,k5,e1,e2,h3⟩:=h;exact ⟨a1,k1,a2,k2,a3,k3,a4,k4,a5,k5,e1,e2,h3.later hb⟩
/- Region 4's states: what its operations have left. -/
def qA (i:Nat) (a:Act) (N:Nat):Act:=a.put (some i) (.pointer (some ⟨N,0,none⟩))
def aE (a:Act) (v:Value) (cn cm cr:Array Value) (e:Int):Act:=(a.put (some 22) v).put (some 23) (.tuple #[.agg cn,.agg cm,.agg cr,.int .i64 e])
def aT (a:Act) (v:Value) (cn cm cr:Array Value) (e:Int):Act:=(((((aE a v cn cm cr e).put (some 19) (.tuple #[.agg cn,.agg cm,.agg cr,.int .i64 e])).put (some 24) (.agg cn)).put (some 25) (.agg cm)).put (some 26) (.agg cr)).put (some 27) (.int .i64 e)
def fl (a b c x y z:Bool):Array Bool:=#[true,true,a,b,c,c,c,c,c,x,y,z,false,false,false,false]
set_option maxRecDepth 100000 in
set_option maxHeartbeats 8000000 in
theorem N7 (t:Tr) (e f:Int) (aL aJ:Option Addr) (cL cJ:Nat) (L:List Int) (J:List (Int×Int)) (w:World) (sD:Tb w) (rL:bM w aL L) (rJ:oQ w aJ J) (lL:L.length * 8≤140737488351232) (lJ:J.length * 16≤140737488351232):
  Calls prog 98 #[.agg (aC t),.agg #[.int .i64 e,.int .i64 f,.slice aL L.length cL,.slice aJ J.length cJ]] w fun r w'=>mg w w' t e f L J r∧Below w.heap.size w w':=by
 have uZ:Hid (bM w aL L∧oQ w aJ J):=⟨rL,rJ⟩;have Mw:Hid (∀X,Below w.heap.size w X→Calls prog 135 #[.agg #[.int .i64 e,.int .i64 f,.slice aL L.length cL,.slice aJ J.length cJ]] X fun r w'=>∃v,r=.returned (.agg #[.slice aL L.length cL,v])∧w'.ownsRow X.heap.size 3 1 v J.length (cq (ws J))∧Below X.heap.size X w'):=fun X hX=>D4 e f aL aJ cL cJ L J X (rJ.later hX) lJ
 have RZ:Hid (∀(X:World) (a:Option Addr) (c:Nat),(∃b,X.ownsRow b 3 1 (.slice a J.length c) J.length (cq (ws J)))→bM X a (ws J)):=fun X a c ⟨b,h⟩=>by
  have e:=kH J;rw [←e] at h;exact vC h
 have HST:Hid (∀(X:World) (aW:Option Addr) (cW:Nat),Below w.heap.size w X→bM X aW (ws J)→Calls prog 108 #[.agg (aC t),.agg #[.slice aL L.length cL,.slice aW J.length cW]] X fun r Y=>∃cm cr,r=.returned (.tuple #[.agg (aC (cZ t L (ws J))),.agg cm,.agg cr,.int .i64 (b_ t L (ws J))])∧Rq w Y (fx t L (ws J)) (bO t L (ws J)) (fY t L (ws J)) (pW t L (ws J)) (rZ t L (ws J)) (cZ t L (ws J)) cm cr∧Below X.heap.size X Y):=fun X aW cW hX hW=>by
  have h:=Ci t aL aW cL cW L (ws J) X (sD.later hX) (by omega) (by rw [kH];omega) (rL.later hX) hW;rw [kH] at h;refine h.mono ?_;rintro r Y ⟨⟨vl,vj,vi,vL,vJ,rfl,oK,Lt⟩,hb⟩;obtain ⟨a1,k1,rfl⟩:=ah oK.left;obtain ⟨a2,k2,rfl⟩:=ah oK.join;obtain ⟨a3,k3,rfl⟩:=ah oK.item;obtain ⟨a4,k4,rfl⟩:=ah Lt.lv;obtain ⟨a5,k5,rfl⟩:=ah Lt.jn;exact ⟨_,_,rfl,⟨a1,k1,a2,k2,a3,k3,a4,k4,a5,k5,rfl,rfl,Rs.aV oK.left hX.size,Rs.aV oK.join hX.size,Rs.aV oK.item hX.size,Rs.aV Lt.lv hX.size,Rs.aV Lt.jn hX.size⟩,hb⟩
 have HLO:Hid (b_ t L (ws J)=0→pW t L (ws J)=L):=fun h=>by unfold pW;rw [if_pos h]
 have Em:Hid ((bO t L (ws J)).length≤8796093022208):=by
  unfold Hid bO;split
  ·rename_i h
   unfold kF;rw [Rs.bX];have:=(j9 h).fit.CW;omega
  ·simp
 have dH:=fH t
 cases jo:gu t with
 | false=>
  have HE:Hid (gU t e f L J=31):=by unfold Hid gU;rw [jo];rfl
  have l8:Hid ((31:Int)≠0):=by unfold Hid;decide
  rw [b8 jo] at dH;clear jo Mw RZ HST HLO Em;have hX:=PX.new w t #[.int .i64 e,.int .i64 f,.slice aL L.length cL,.slice aJ J.length cJ];unfold cQ at hX;obtain ⟨ct,bQ⟩:∃c,aC t=c:=⟨_,rfl⟩;have HT:Hid (aC t=ct):=bQ;clear bQ;go_enter func98,ntmps98;go_upto_region 1 with (fail)
  rw [fu];generalize (((w.alloc (.cells (aC t) 39)).alloc (.cells #[.int .i64 e,.int .i64 f,.slice aL L.length cL,.slice aJ J.length cJ] 70)).alloc (.cells (aC (tz 0)) 39)).alloc (.cells #[.int .i64 0,.slice none 0 0,.slice none 0 0,.slice none 0 0] 54)=w1 at *;rw [HT.out];obtain ⟨s0,hs0⟩:∃D,w.heap.size+4=D:=⟨_,rfl⟩;obtain ⟨D,hD⟩:∃D,w.heap.size+3=D:=⟨_,rfl⟩;obtain ⟨K,hK⟩:∃D,w.heap.size+2=D:=⟨_,rfl⟩;obtain ⟨C,hC⟩:∃D,w.heap.size+1=D:=⟨_,rfl⟩;obtain ⟨B,hB⟩:∃D,w.heap.size=D:=⟨_,rfl⟩;rw [hs0,hD,hK,hC,hB] at hX;rw [hD,hK,hC,hB];clear hs0 hD hK hC hB;have jT:=hX.tr;have h1:=dH w1;rw [HT.out] at h1;clear dH;go_wp2_with (refine pV jT HT.out _ rfl rfl rfl ?_)
  refine h1.mono ?_;rintro r W9 ⟨rfl,hb2⟩;have jD:=hX.later hb2;clear h1 hX jT hb2;have hZ:=jD.ze;obtain ⟨cz,fW⟩:∃c,aC (tz 0)=c:=⟨_,rfl⟩;have HZ:Hid (aC (tz 0)=cz):=fW;have Dm:az (W9.setRow K cz) K (tz 0):=by rw [←fW];exact hZ.row _
  have gy:b7 (W9.setRow K cz) D cQ:=(Rt.aq (ay jD.rk hZ (by decide)) _).trans jD.rk;have Xf:Hid (az ((W9.setRow K cz).setRow D cQ) K (tz 0)):=(Rt.aq (ay Dm gy (by decide)) _).trans Dm;have HBZ:Hid (Below w.heap.size w ((W9.setRow K cz).setRow D cQ)):=Rt.ag jD.gD (Rt.ag jD.gK jD.aK _) _;clear fW jD Dm;go_wp2_with (first | (refine Jy HZ.out rfl rfl ?_) | (show wpList _ _ _ ({dst:=_,op:=Op.store 39 _ _,type:=_,pos:=_,after:=_,guard:=_}::_) _ _;refine eE hZ HZ.out rfl _ _ rfl rfl rfl ?_) | (show wpList _ _ _ ({dst:=_,op:=Op.store 54 _ _,type:=_,pos:=_,after:=_,guard:=_}::_) _ _;refine gN cS (cs:=cQ) bw gy cQ bw j8 rfl _ _ rfl rfl rfl ?_))
  refine bodyPost_ret (dz (p:=4) (q:=5) (t:=6) rfl _ _ K D (tz 0) cQ rfl rfl Xf.out (Rt.ai gy _) rfl) rfl ?_;exact ⟨mg.no HE.out l8.out,HBZ.out⟩
 | true=>
  rw [p_ jo] at dH;obtain ⟨nL,ru⟩:∃n,L.length=n:=⟨_,rfl⟩;obtain ⟨nJ,ow⟩:∃n,J.length=n:=⟨_,rfl⟩;have lu:Hid (L.length=nL∧J.length=nJ∧L.length≤17592186044416∧J.length≤8796093022208):=⟨ru,ow,by omega,by omega⟩;have HPE:Hid ((b_ t L (ws J)=0)→(Kq (cZ t L (ws J)).ep (cZ t L (ws J)).fr L (bO t L (ws J)) e f L J=false→gU t e f L J=12)∧(Kq (cZ t L (ws J)).ep (cZ t L (ws J)).fr L (bO t L (ws J)) e f L J=true→gU t e f L J=0)):=fun h0=>⟨fun h=>by unfold gU;rw [jo,if_pos rfl,if_pos h0,h];rfl,fun h=>by unfold gU;rw [jo,if_pos rfl,if_pos h0,h];rfl⟩
  have HPN:Hid (b_ t L (ws J)≠0→gU t e f L J=12):=fun h=>by unfold gU;rw [jo,if_pos rfl,if_neg h]
  have BB:Hid (∀W vl vj vi,gU t e f L J=0→tY w W (fx t L (ws J)) (bO t L (ws J)) (fY t L (ws J)) vl vj vi→mg w W t e f L J (.returned (.tuple #[.agg (aC (cZ t L (ws J))),.agg #[.int .i64 (rZ t L (ws J)),vl,vj,vi],.int .i64 0]))):=fun _ _ _ _ h hp=>mg.yes h rfl hp
  have hX:=PX.new w t #[.int .i64 e,.int .i64 f,.slice aL L.length cL,.slice aJ J.length cJ];unfold cQ at hX;rw [ru,ow] at hX;rw [ru,ow] at Mw;simp only [ru,ow] at HST RZ;rw [ru,ow];obtain ⟨Jw,hJw⟩:∃l,ws J=l:=⟨_,rfl⟩;rw [hJw] at Mw RZ HLO Em HPE HPN BB;simp only [hJw] at HST;clear ru ow hJw jo sD rL rJ lL lJ;obtain ⟨n,hn⟩:∃n,cZ t L Jw=n:=⟨_,rfl⟩;obtain ⟨cn,f_⟩:∃c,aC n=c:=⟨_,rfl⟩;have HC:Hid (aC n=cn):=f_;obtain ⟨e0,he⟩:∃e,b_ t L Jw=e:=⟨_,rfl⟩;obtain ⟨pP,hpP⟩:∃e,rZ t L Jw=e:=⟨_,rfl⟩;obtain ⟨ll,pI⟩:∃l,fx t L Jw=l:=⟨_,rfl⟩;obtain ⟨lj,mi⟩:∃l,bO t L Jw=l:=⟨_,rfl⟩;obtain ⟨li,rv⟩:∃l,fY t L Jw=l:=⟨_,rfl⟩;obtain ⟨lo,hlo⟩:∃l,pW t L Jw=l:=⟨_,rfl⟩;rw [he,hlo] at HLO;rw [mi] at Em;rw [he,hn,mi] at HPE;rw [he] at HPN;obtain ⟨ct,bQ⟩:∃c,aC t=c:=⟨_,rfl⟩;simp only [hn,f_,he,hpP,pI,mi,rv,hlo,bQ] at HST
  have Xi:Hid (∀W vl vj vi,gU t e f L J=0→tY w W ll lj li vl vj vi→mg w W t e f L J (.returned (.tuple #[.agg (aC n),.agg #[.int .i64 pP,vl,vj,vi],.int .i64 0]))):=by
   have h:=BB.out;unfold Hid;rw [hn,hpP,pI,mi,rv] at h;exact h
  clear BB;have BB:=Xi;clear Xi;have HT:Hid (aC t=ct):=bQ;clear hn f_ he hpP pI mi rv hlo bQ;go_enter func98,ntmps98;go_upto_region 1 with (fail)
  rw [fu];generalize (((w.alloc (.cells (aC t) 39)).alloc (.cells #[.int .i64 e,.int .i64 f,.slice aL nL cL,.slice aJ nJ cJ] 70)).alloc (.cells (aC (tz 0)) 39)).alloc (.cells #[.int .i64 0,.slice none 0 0,.slice none 0 0,.slice none 0 0] 54)=w1 at *;rw [HT.out];obtain ⟨s0,hs0⟩:∃D,w.heap.size+4=D:=⟨_,rfl⟩;obtain ⟨D,hD⟩:∃D,w.heap.size+3=D:=⟨_,rfl⟩;obtain ⟨K,hK⟩:∃D,w.heap.size+2=D:=⟨_,rfl⟩;obtain ⟨C,hC⟩:∃D,w.heap.size+1=D:=⟨_,rfl⟩;obtain ⟨B,hB⟩:∃D,w.heap.size=D:=⟨_,rfl⟩;rw [hs0,hD,hK,hC,hB] at hX;rw [hD,hK,hC,hB];clear hs0 hD hK hC hB;have jT:=hX.tr;have h1:=dH w1;rw [HT.out] at h1;clear dH;go_wp2_with (refine pV jT HT.out _ rfl rfl rfl ?_)
  refine h1.mono ?_;rintro r w2 ⟨rfl,hb2⟩;have kV:=hX.later hb2;clear h1 hX jT hb2;go_upto_region 4 with (fail)
  obtain ⟨rc,Li⟩:∃c:Array Value,#[.int .i64 e,.int .i64 f,.slice aL nL cL,.slice aJ nJ cJ]=c:=⟨_,rfl⟩;have Vr:Hid (#[.int .i64 e,.int .i64 f,.slice aL nL cL,.slice aJ nJ cJ]=rc):=Li;rw [Li] at kV Mw;clear Li;have dm:PX w w2.drew s0 B C K D t rc:=kV.later (aG _);clear kV;refine wp_region_held_drew (S:=fun X=>PX w X s0 B C K D t rc) (by kernel_rfl) dm (fun hHeld=>?_);refine dG 0 (.agg ct) rfl (fun w hSw=>bB (HT.out ▸ hSw.tr.whole) rfl rfl) ?_;go_frame;refine dG 1 (.agg rc) rfl (fun w hSw=>bB (RcW hSw.rc (by rw [←Vr.out];rfl)) rfl rfl) ?_;go_frame;generalize w2.drew=X0 at *;clear hHeld;refine acL (fun Gw oM A0 m_=>?_)
  have cH:∀X,PX w X s0 B C K D t rc→∀N,az X N (tz 0)→s0≤N→∀G,b7 X G cQ→s0≤G→∀A,bh X A rz→s0≤A→∀vB cm cr,Rq w X ll lj li lo pP n cm cr→Gw 4 (fl true true true true true true) (aT (qA 10 (qA 9 (qA 8 A0 N) G) A) vB cn cm cr e0) X:=by
   intro X hS N h9 g9 G h10 g10 A h11 g11 vB cm cr h3;subst oM;subst m_;simp only [qA,aE,aT,fl,Act.put,List.setIfInBounds_toArray,List.set_cons_zero,List.set_cons_succ];obtain ⟨a1,k1,a2,k2,a3,k3,a4,k4,a5,k5,rfl,rfl,h3⟩:=h3;refine dh 12 rfl fun Kc hK=>?_;have hS1:=hS.set g9 cn;have n1:az (X.setRow N cn) N n:=by rw [←HC.out];exact h9.row n
   have n2:b7 (X.setRow N cn) G cQ:=(Rt.aq (ay h10 h9 (by decide)) _).trans h10;have n3:bh (X.setRow N cn) A rz:=(Rt.aq (ay h11 h9 (by decide)) _).trans h11;have r1:=h3.row h9 (by decide) (by decide) (by decide) cn;refine iu rfl (bR 39 _ _ rfl N cn rfl rfl 39 (aC (tz 0)) h9 (by rw [←HC.out,aZ];exact jz) (by rw [←HC.out,aZ,aZ]) (by rw [←HC.out];exact j5 n) rfl ?_);refine hK.out _ _ hS1 (fun _=>?_);clear hK Kc hS h9 h10 h11 h3;try go_frame
   generalize X.setRow N cn=X1 at *;refine dh 13 rfl fun Kc hK=>?_;have gA:=hS1.set g10 #[.int .i64 pP,.slice a1 ll.length k1,.slice a2 lj.length k2,.slice a3 li.length k3];have m1:az (X1.setRow G #[.int .i64 pP,.slice a1 ll.length k1,.slice a2 lj.length k2,.slice a3 li.length k3]) N n:=(Rt.aq (ay n1 n2 (by decide)) _).trans n1;have m2:b7 (X1.setRow G #[.int .i64 pP,.slice a1 ll.length k1,.slice a2 lj.length k2,.slice a3 li.length k3]) G #[.int .i64 pP,.slice a1 ll.length k1,.slice a2 lj.length k2,.slice a3 li.length k3]:=Rt.ai n2 _;have m3:bh (X1.setRow G #[.int .i64 pP,.slice a1 ll.length k1,.slice a2 lj.length k2,.slice a3 li.length k3]) A rz:=(Rt.aq (ay n3 n2 (by decide)) _).trans n3;have r2:=r1.row n2 (by decide) (by decide) (by decide) #[.int .i64 pP,.slice a1 ll.length k1,.slice a2 lj.length k2,.slice a3 li.length k3];refine iu rfl (bR 54 _ _ rfl G _ rfl rfl 54 cQ n2 cS rfl (kx _ _ _ _ _ _ _ _ _ _) rfl ?_);refine hK.out _ _ gA (fun _=>?_);clear hK Kc hS1 n1 n2 n3 r1;try go_frame
   generalize X1.setRow G #[.int .i64 pP,.slice a1 ll.length k1,.slice a2 lj.length k2,.slice a3 li.length k3]=X2 at *;refine dh 14 rfl fun Kc hK=>?_;have pJ:=gA.set g11 #[.int .i64 n.ep,.int .i64 n.fr,.slice a4 lo.length k4,.slice a5 lj.length k5];have o1:az (X2.setRow A #[.int .i64 n.ep,.int .i64 n.fr,.slice a4 lo.length k4,.slice a5 lj.length k5]) N n:=(Rt.aq (ay m1 m3 (by decide)) _).trans m1;have o2:b7 (X2.setRow A #[.int .i64 n.ep,.int .i64 n.fr,.slice a4 lo.length k4,.slice a5 lj.length k5]) G #[.int .i64 pP,.slice a1 ll.length k1,.slice a2 lj.length k2,.slice a3 li.length k3]:=(Rt.aq (ay m2 m3 (by decide)) _).trans m2;have o3:bh (X2.setRow A #[.int .i64 n.ep,.int .i64 n.fr,.slice a4 lo.length k4,.slice a5 lj.length k5]) A #[.int .i64 n.ep,.int .i64 n.fr,.slice a4 lo.length k4,.slice a5 lj.length k5]:=Rt.ai m3 _;have r3:=r2.row m3 (by decide) (by decide) (by decide) #[.int .i64 n.ep,.int .i64 n.fr,.slice a4 lo.length k4,.slice a5 lj.length k5];refine iu rfl (bR 70 _ _ rfl A _ rfl rfl 70 rz m3 gY rfl (mG _ _ _ _ _ _ _ _) rfl ?_);refine hK.out _ _ pJ (fun _=>?_);clear hK Kc gA m1 m2 m3 r2;try go_frame
   generalize X2.setRow A #[.int .i64 n.ep,.int .i64 n.fr,.slice a4 lo.length k4,.slice a5 lj.length k5]=X3 at *;refine kR 15 (.int .i64 e0) rfl ?_;go_frame;refine wpAnyH_done (by kernel_rfl) ?_ _;by_cases BP:e0=0
   ·subst BP;have hlo:lo=L:=HLO.out rfl;subst hlo;obtain ⟨c0,c1,c2,c3⟩:=o3.cells;have Li:=pJ.rc;rw [←Vr.out] at Li;obtain ⟨d0,d1,d2,d3⟩:=Li.cells;clear Li;have hsm:=Te n.ep n.fr e f a4 a5 aL aJ k4 k5 cL cJ lo lo lj J X3 (by have:=lu.out;omega) (by have:=lu.out;omega) (by have:=Em.out;omega) (by have:=lu.out;omega) (vC r3.lv) (rT r3.jn) (uZ.out.1.later pJ.aK) (uZ.out.2.later pJ.aK);rw [lu.out.1,lu.out.2.1] at hsm
    cases hb:Kq n.ep n.fr lo lj e f lo J with
    | false=>
     rw [hb] at hsm;have HE:Hid (gU t e f lo J=12):=(HPE.out rfl).1 hb;have l8:Hid ((12:Int)≠0):=by unfold Hid;decide
     rw [lu.out.1] at c2 ⊢;clear hb;go_wp2_with fail
     refine hsm.mono ?_;rintro r W9 ⟨rfl,EE⟩;have jD:=pJ.later EE;clear hsm pJ o1 o2 o3 r3 c0 c1 c2 c3 d0 d1 d2 d3 EE;have hZ:=jD.ze;obtain ⟨cz,fW⟩:∃c,aC (tz 0)=c:=⟨_,rfl⟩;have HZ:Hid (aC (tz 0)=cz):=fW;have Dm:az (W9.setRow K cz) K (tz 0):=by rw [←fW];exact hZ.row _
     have gy:b7 (W9.setRow K cz) D cQ:=(Rt.aq (ay jD.rk hZ (by decide)) _).trans jD.rk;have Xf:Hid (az ((W9.setRow K cz).setRow D cQ) K (tz 0)):=(Rt.aq (ay Dm gy (by decide)) _).trans Dm;have HBZ:Hid (Below w.heap.size w ((W9.setRow K cz).setRow D cQ)):=Rt.ag jD.gD (Rt.ag jD.gK jD.aK _) _;clear fW jD Dm;go_wp2_with (first | (refine Jy HZ.out rfl rfl ?_) | (show wpList _ _ _ ({dst:=_,op:=Op.store 39 _ _,type:=_,pos:=_,after:=_,guard:=_}::_) _ _;refine eE hZ HZ.out rfl _ _ rfl rfl rfl ?_) | (show wpList _ _ _ ({dst:=_,op:=Op.store 54 _ _,type:=_,pos:=_,after:=_,guard:=_}::_) _ _;refine gN cS (cs:=cQ) bw gy cQ bw j8 rfl _ _ rfl rfl rfl ?_))
     refine bodyPost_ret (dz (p:=4) (q:=5) (t:=6) rfl _ _ K D (tz 0) cQ rfl rfl Xf.out (Rt.ai gy _) rfl) rfl ?_;exact ⟨mg.no HE.out l8.out,HBZ.out⟩
    | true=>
     rw [hb] at hsm;have HE:Hid (gU t e f lo J=0):=(HPE.out rfl).2 hb;rw [lu.out.1] at c2 ⊢;clear hb;go_wp2_with fail
     refine hsm.mono ?_;rintro r W9 ⟨rfl,EE⟩;have jD:=pJ.later EE;have q1:=o1.later EE;have q2:=br o2 EE;have q3:=r3.later EE;have HNK:Hid (N≠K∧G≠D):=⟨by have:=jD.lt;omega,by have:=jD.lt;omega⟩;clear hsm pJ o1 o2 o3 r3 c0 c1 c2 c3 d0 d1 d2 d3 EE;go_upto_region 7 with (fail)
     have dm:PY w W9.drew N G K D n #[.int .i64 pP,.slice a1 ll.length k1,.slice a2 lj.length k2,.slice a3 li.length k3] (.slice a1 ll.length k1) (.slice a2 lj.length k2) (.slice a3 li.length k3) ll lj li:=PY.later ⟨q1,q2,⟨_,jD.ze⟩,⟨cQ,rfl,jD.rk⟩,⟨q3.left,q3.join,q3.item⟩,jD.aK,HNK.out.1,HNK.out.2,jD.gK,jD.gD⟩ (aG _);clear jD q1 q2 q3;refine wp_region_held_drew (S:=fun Z=>PY w Z N G K D n #[.int .i64 pP,.slice a1 ll.length k1,.slice a2 lj.length k2,.slice a3 li.length k3] (.slice a1 ll.length k1) (.slice a2 lj.length k2) (.slice a3 li.length k3) ll lj li) (by kernel_rfl) dm (fun hHeld=>?_);refine dG 0 (.agg cn) rfl (fun w hSw=>bB (HC.out ▸ hSw.n.whole) rfl rfl) ?_;go_frame;refine dG 1 (.agg #[.int .i64 pP,.slice a1 ll.length k1,.slice a2 lj.length k2,.slice a3 li.length k3]) rfl (fun w hSw=>bB (RkW hSw.m rfl) rfl rfl) ?_;go_frame;refine dh 2 rfl fun Kc hK=>?_;obtain ⟨u,hu⟩:=hHeld.ze;obtain ⟨EG,AR⟩:=hHeld.Kl HC.out;refine iu rfl (bR 39 _ _ rfl K cn rfl rfl 39 (aC u) hu (by rw [←HC.out,aZ];exact jz) (by rw [←HC.out,aZ,aZ]) (by rw [←HC.out];exact j5 n) rfl ?_);refine hK.out _ _ EG (fun aD=>?_);clear hHeld hu EG;clear hK Kc;try go_frame
     refine dh 3 rfl fun Kc hK=>?_;obtain ⟨Zx,PZ,Dq⟩:=aD.rk;obtain ⟨Dr,I0,WA⟩:=aD.Km (ds:=#[.int .i64 pP,.slice a1 ll.length k1,.slice a2 lj.length k2,.slice a3 li.length k3]) AR Dq rfl;refine iu rfl (bR 54 _ _ rfl D _ rfl rfl 54 Zx Dq cS PZ (kx _ _ _ _ _ _ _ _ _ _) rfl ?_);refine hK.out _ _ Dr (fun aN=>?_);clear aD Dq Dr;clear hK Kc;try go_frame
     refine aH 4 (.int .i64 0) rfl ?_;go_frame;refine wpAnyH_done (by kernel_rfl) ?_ _;obtain ⟨Z9,hZ9⟩:∃Z,((W9.drew.setRow K cn).setRow D #[.int .i64 pP,.slice a1 ll.length k1,.slice a2 lj.length k2,.slice a3 li.length k3])=Z:=⟨_,rfl⟩;rw [hZ9] at I0 WA aN ⊢;clear hZ9 AR;go_wp2_with fail
     refine bodyPost_ret (dz (p:=4) (q:=5) (t:=6) rfl _ _ K D n _ rfl rfl I0 WA rfl) rfl ?_;exact ⟨BB.out _ _ _ _ HE.out aN.rows,aN.aK⟩
   ·have Ww:(e0 !=0)=true:=by simpa using BP
    have HE:Hid (gU t e f L J=12):=HPN.out BP;have l8:Hid ((12:Int)≠0):=by unfold Hid;decide
    obtain ⟨W9,rfl⟩:∃W9,W9=X3:=⟨_,rfl⟩;have jD:=pJ;clear BP pJ o1 o2 o3 r3;have hZ:=jD.ze;obtain ⟨cz,fW⟩:∃c,aC (tz 0)=c:=⟨_,rfl⟩;have HZ:Hid (aC (tz 0)=cz):=fW;have Dm:az (W9.setRow K cz) K (tz 0):=by rw [←fW];exact hZ.row _
    have gy:b7 (W9.setRow K cz) D cQ:=(Rt.aq (ay jD.rk hZ (by decide)) _).trans jD.rk;have Xf:Hid (az ((W9.setRow K cz).setRow D cQ) K (tz 0)):=(Rt.aq (ay Dm gy (by decide)) _).trans Dm;have HBZ:Hid (Below w.heap.size w ((W9.setRow K cz).setRow D cQ)):=Rt.ag jD.gD (Rt.ag jD.gK jD.aK _) _;clear fW jD Dm;go_wp2_with (first | (refine Jy HZ.out rfl rfl ?_) | (show wpList _ _ _ ({dst:=_,op:=Op.store 39 _ _,type:=_,pos:=_,after:=_,guard:=_}::_) _ _;refine eE hZ HZ.out rfl _ _ rfl rfl rfl ?_) | (show wpList _ _ _ ({dst:=_,op:=Op.store 54 _ _,type:=_,pos:=_,after:=_,guard:=_}::_) _ _;refine gN cS (cs:=cQ) bw gy cQ bw j8 rfl _ _ rfl rfl rfl ?_))
    refine bodyPost_ret (dz (p:=4) (q:=5) (t:=6) rfl _ _ K D (tz 0) cQ rfl rfl Xf.out (Rt.ai gy _) rfl) rfl ?_;exact ⟨mg.no HE.out l8.out,HBZ.out⟩
  have cO:∀X,PX w X s0 B C K D t rc→∀G,b7 X G cQ→s0≤G→∀A,bh X A rz→s0≤A→∀vB cm cr,Rq w X ll lj li lo pP n cm cr→Gw 5 (fl true true true false true true) (aT (qA 10 (qA 9 A0 G) A) vB cn cm cr e0) X:=by
   intro X hS G h10 g10 A h11 g11 vB cm cr h3;subst oM;subst m_;simp only [qA,aE,aT,fl,Act.put,List.setIfInBounds_toArray,List.set_cons_zero,List.set_cons_succ] at cH ⊢;refine wpAnyH_ready (rs:=[9]) (by kernel_rfl) (by simp) ?_;refine (AllReadyH.cons rfl (fun K9 bU=>?_) AllReadyH.nil)
   ·go_simp
    refine bU.out _ _ (hS.later (aa _ _)) (fun _=>?_);exact cH _ (hS.later (aa _ _)) X.heap.size (az.zero X) hS.sz G (br h10 (aa _ _)) g10 A (h11.later (aa _ _)) g11 vB cm cr (h3.later (aa _ _))
  have cP:∀X,PX w X s0 B C K D t rc→∀N,az X N (tz 0)→s0≤N→∀A,bh X A rz→s0≤A→∀vB cm cr,Rq w X ll lj li lo pP n cm cr→Gw 5 (fl true true true true false true) (aT (qA 10 (qA 8 A0 N) A) vB cn cm cr e0) X:=by
   clear cO;intro X hS N h9 g9 A h11 g11 vB cm cr h3;subst oM;subst m_;simp only [qA,aE,aT,fl,Act.put,List.setIfInBounds_toArray,List.set_cons_zero,List.set_cons_succ] at cH ⊢;refine wpAnyH_ready (rs:=[10]) (by kernel_rfl) (by simp) ?_;refine (AllReadyH.cons rfl (fun K9 bU=>?_) AllReadyH.nil)
   ·go_simp
    refine bU.out _ _ (hS.later (aa _ _)) (fun _=>?_);exact cH _ (hS.later (aa _ _)) N (h9.later (aa _ _)) g9 X.heap.size (heap_alloc_last X _) hS.sz A (h11.later (aa _ _)) g11 vB cm cr (h3.later (aa _ _))
  have cV:∀X,PX w X s0 B C K D t rc→∀N,az X N (tz 0)→s0≤N→∀G,b7 X G cQ→s0≤G→∀vB cm cr,Rq w X ll lj li lo pP n cm cr→Gw 5 (fl true true true true true false) (aT (qA 9 (qA 8 A0 N) G) vB cn cm cr e0) X:=by
   clear cO cP;intro X hS N h9 g9 G h10 g10 vB cm cr h3;subst oM;subst m_;simp only [qA,aE,aT,fl,Act.put,List.setIfInBounds_toArray,List.set_cons_zero,List.set_cons_succ] at cH ⊢;refine wpAnyH_ready (rs:=[11]) (by kernel_rfl) (by simp) ?_;refine (AllReadyH.cons rfl (fun K9 bU=>?_) AllReadyH.nil)
   ·go_simp
    refine bU.out _ _ (hS.later (aa _ _)) (fun _=>?_);exact cH _ (hS.later (aa _ _)) N (h9.later (aa _ _)) g9 G (br h10 (aa _ _)) g10 X.heap.size (heap_alloc_last X _) hS.sz vB cm cr (h3.later (aa _ _))
  have dw:∀X,PX w X s0 B C K D t rc→∀A,bh X A rz→s0≤A→∀vB cm cr,Rq w X ll lj li lo pP n cm cr→Gw 6 (fl true true true false false true) (aT (qA 10 A0 A) vB cn cm cr e0) X:=by
   clear cH cV;intro X hS A h11 g11 vB cm cr h3;subst oM;subst m_;simp only [qA,aE,aT,fl,Act.put,List.setIfInBounds_toArray,List.set_cons_zero,List.set_cons_succ] at cO cP ⊢;refine wpAnyH_ready (rs:=[9,10]) (by kernel_rfl) (by simp) ?_;refine (AllReadyH.cons rfl (fun K9 bU=>?_) (AllReadyH.cons rfl (fun K9 bU=>?_) AllReadyH.nil))
   ·go_simp
    refine bU.out _ _ (hS.later (aa _ _)) (fun _=>?_);exact cP _ (hS.later (aa _ _)) X.heap.size (az.zero X) hS.sz A (h11.later (aa _ _)) g11 vB cm cr (h3.later (aa _ _))
   ·go_simp
    refine bU.out _ _ (hS.later (aa _ _)) (fun _=>?_);exact cO _ (hS.later (aa _ _)) X.heap.size (heap_alloc_last X _) hS.sz A (h11.later (aa _ _)) g11 vB cm cr (h3.later (aa _ _))
  have dD:∀X,PX w X s0 B C K D t rc→∀G,b7 X G cQ→s0≤G→∀vB cm cr,Rq w X ll lj li lo pP n cm cr→Gw 6 (fl true true true false true false) (aT (qA 9 A0 G) vB cn cm cr e0) X:=by
   clear cH cP dw;intro X hS G h10 g10 vB cm cr h3;subst oM;subst m_;simp only [qA,aE,aT,fl,Act.put,List.setIfInBounds_toArray,List.set_cons_zero,List.set_cons_succ] at cO cV ⊢;refine wpAnyH_ready (rs:=[9,11]) (by kernel_rfl) (by simp) ?_;refine (AllReadyH.cons rfl (fun K9 bU=>?_) (AllReadyH.cons rfl (fun K9 bU=>?_) AllReadyH.nil))
   ·go_simp
    refine bU.out _ _ (hS.later (aa _ _)) (fun _=>?_);exact cV _ (hS.later (aa _ _)) X.heap.size (az.zero X) hS.sz G (br h10 (aa _ _)) g10 vB cm cr (h3.later (aa _ _))
   ·go_simp
    refine bU.out _ _ (hS.later (aa _ _)) (fun _=>?_);exact cO _ (hS.later (aa _ _)) G (br h10 (aa _ _)) g10 X.heap.size (heap_alloc_last X _) hS.sz vB cm cr (h3.later (aa _ _))
  have dO:∀X,PX w X s0 B C K D t rc→∀N,az X N (tz 0)→s0≤N→∀vB cm cr,Rq w X ll lj li lo pP n cm cr→Gw 6 (fl true true true true false false) (aT (qA 8 A0 N) vB cn cm cr e0) X:=by
   clear cH cO dw dD;intro X hS N h9 g9 vB cm cr h3;subst oM;subst m_;simp only [qA,aE,aT,fl,Act.put,List.setIfInBounds_toArray,List.set_cons_zero,List.set_cons_succ] at cP cV ⊢;refine wpAnyH_ready (rs:=[10,11]) (by kernel_rfl) (by simp) ?_;refine (AllReadyH.cons rfl (fun K9 bU=>?_) (AllReadyH.cons rfl (fun K9 bU=>?_) AllReadyH.nil))
   ·go_simp
    refine bU.out _ _ (hS.later (aa _ _)) (fun _=>?_);exact cV _ (hS.later (aa _ _)) N (h9.later (aa _ _)) g9 X.heap.size (heap_alloc_last X _) hS.sz vB cm cr (h3.later (aa _ _))
   ·go_simp
    refine bU.out _ _ (hS.later (aa _ _)) (fun _=>?_);exact cP _ (hS.later (aa _ _)) N (h9.later (aa _ _)) g9 X.heap.size (heap_alloc_last X _) hS.sz vB cm cr (h3.later (aa _ _))
  have dU:∀X,PX w X s0 B C K D t rc→∀vB cm cr,Rq w X ll lj li lo pP n cm cr→Gw 7 (fl true true true false false false) (aT A0 vB cn cm cr e0) X:=by
   clear cH cO cP cV;intro X hS vB cm cr h3;subst oM;subst m_;simp only [qA,aE,aT,fl,Act.put,List.setIfInBounds_toArray,List.set_cons_zero,List.set_cons_succ] at dw dD dO ⊢;refine wpAnyH_ready (rs:=[9,10,11]) (by kernel_rfl) (by simp) ?_;refine (AllReadyH.cons rfl (fun K9 bU=>?_) (AllReadyH.cons rfl (fun K9 bU=>?_) (AllReadyH.cons rfl (fun K9 bU=>?_) AllReadyH.nil)))
   ·go_simp
    refine bU.out _ _ (hS.later (aa _ _)) (fun _=>?_);exact dO _ (hS.later (aa _ _)) X.heap.size (az.zero X) hS.sz vB cm cr (h3.later (aa _ _))
   ·go_simp
    refine bU.out _ _ (hS.later (aa _ _)) (fun _=>?_);exact dD _ (hS.later (aa _ _)) X.heap.size (heap_alloc_last X _) hS.sz vB cm cr (h3.later (aa _ _))
   ·go_simp
    refine bU.out _ _ (hS.later (aa _ _)) (fun _=>?_);exact dw _ (hS.later (aa _ _)) X.heap.size (heap_alloc_last X _) hS.sz vB cm cr (h3.later (aa _ _))
  have dX:∀X,PX w X s0 B C K D t rc→∀N,az X N (tz 0)→s0≤N→∀G,b7 X G cQ→s0≤G→∀A,bh X A rz→s0≤A→∀vB cm cr,Rq w X ll lj li lo pP n cm cr→Gw 9 (fl true true false true true true) (aE (qA 10 (qA 9 (qA 8 A0 N) G) A) vB cn cm cr e0) X:=by
   clear cO cP cV dw dD dO dU;intro X hS N h9 g9 G h10 g10 A h11 g11 vB cm cr h3;subst oM;subst m_;simp only [qA,aE,aT,fl,Act.put,List.setIfInBounds_toArray,List.set_cons_zero,List.set_cons_succ] at cH ⊢;refine kR 4 (.tuple #[.agg cn,.agg cm,.agg cr,.int .i64 e0]) rfl ?_;go_frame;refine kR 5 (.agg cn) rfl ?_;go_frame;refine kR 6 (.agg cm) rfl ?_;go_frame;refine kR 7 (.agg cr) rfl ?_;go_frame;refine kR 8 (.int .i64 e0) rfl ?_;go_frame;exact cH X hS N h9 g9 G h10 g10 A h11 g11 vB cm cr h3
  have ez:∀X,PX w X s0 B C K D t rc→∀G,b7 X G cQ→s0≤G→∀A,bh X A rz→s0≤A→∀vB cm cr,Rq w X ll lj li lo pP n cm cr→Gw 10 (fl true true false false true true) (aE (qA 10 (qA 9 A0 G) A) vB cn cm cr e0) X:=by
   clear cH cP cV dw dD dO dU dX;intro X hS G h10 g10 A h11 g11 vB cm cr h3;subst oM;subst m_;simp only [qA,aE,aT,fl,Act.put,List.setIfInBounds_toArray,List.set_cons_zero,List.set_cons_succ] at cO ⊢;refine kR 4 (.tuple #[.agg cn,.agg cm,.agg cr,.int .i64 e0]) rfl ?_;go_frame;refine kR 5 (.agg cn) rfl ?_;go_frame;refine kR 6 (.agg cm) rfl ?_;go_frame;refine kR 7 (.agg cr) rfl ?_;go_frame;refine kR 8 (.int .i64 e0) rfl ?_;go_frame;exact cO X hS G h10 g10 A h11 g11 vB cm cr h3
  have eY:∀X,PX w X s0 B C K D t rc→∀N,az X N (tz 0)→s0≤N→∀A,bh X A rz→s0≤A→∀vB cm cr,Rq w X ll lj li lo pP n cm cr→Gw 10 (fl true true false true false true) (aE (qA 10 (qA 8 A0 N) A) vB cn cm cr e0) X:=by
   clear cH cO cV dw dD dO dU dX ez;intro X hS N h9 g9 A h11 g11 vB cm cr h3;subst oM;subst m_;simp only [qA,aE,aT,fl,Act.put,List.setIfInBounds_toArray,List.set_cons_zero,List.set_cons_succ] at cP ⊢;refine kR 4 (.tuple #[.agg cn,.agg cm,.agg cr,.int .i64 e0]) rfl ?_;go_frame;refine kR 5 (.agg cn) rfl ?_;go_frame;refine kR 6 (.agg cm) rfl ?_;go_frame;refine kR 7 (.agg cr) rfl ?_;go_frame;refine kR 8 (.int .i64 e0) rfl ?_;go_frame;exact cP X hS N h9 g9 A h11 g11 vB cm cr h3
  have fq:∀X,PX w X s0 B C K D t rc→∀N,az X N (tz 0)→s0≤N→∀G,b7 X G cQ→s0≤G→∀vB cm cr,Rq w X ll lj li lo pP n cm cr→Gw 10 (fl true true false true true false) (aE (qA 9 (qA 8 A0 N) G) vB cn cm cr e0) X:=by
   clear cH cO cP dw dD dO dU dX ez eY;intro X hS N h9 g9 G h10 g10 vB cm cr h3;subst oM;subst m_;simp only [qA,aE,aT,fl,Act.put,List.setIfInBounds_toArray,List.set_cons_zero,List.set_cons_succ] at cV ⊢;refine kR 4 (.tuple #[.agg cn,.agg cm,.agg cr,.int .i64 e0]) rfl ?_;go_frame;refine kR 5 (.agg cn) rfl ?_;go_frame;refine kR 6 (.agg cm) rfl ?_;go_frame;refine kR 7 (.agg cr) rfl ?_;go_frame;refine kR 8 (.int .i64 e0) rfl ?_;go_frame;exact cV X hS N h9 g9 G h10 g10 vB cm cr h3
  have fT:∀X,PX w X s0 B C K D t rc→∀A,bh X A rz→s0≤A→∀vB cm cr,Rq w X ll lj li lo pP n cm cr→Gw 11 (fl true true false false false true) (aE (qA 10 A0 A) vB cn cm cr e0) X:=by
   clear cH cO cP cV dD dO dU dX ez eY fq;intro X hS A h11 g11 vB cm cr h3;subst oM;subst m_;simp only [qA,aE,aT,fl,Act.put,List.setIfInBounds_toArray,List.set_cons_zero,List.set_cons_succ] at dw ⊢;refine kR 4 (.tuple #[.agg cn,.agg cm,.agg cr,.int .i64 e0]) rfl ?_;go_frame;refine kR 5 (.agg cn) rfl ?_;go_frame;refine kR 6 (.agg cm) rfl ?_;go_frame;refine kR 7 (.agg cr) rfl ?_;go_frame;refine kR 8 (.int .i64 e0) rfl ?_;go_frame;exact dw X hS A h11 g11 vB cm cr h3
  have gp:∀X,PX w X s0 B C K D t rc→∀G,b7 X G cQ→s0≤G→∀vB cm cr,Rq w X ll lj li lo pP n cm cr→Gw 11 (fl true true false false true false) (aE (qA 9 A0 G) vB cn cm cr e0) X:=by
   clear cH cO cP cV dw dO dU dX ez eY fq fT;intro X hS G h10 g10 vB cm cr h3;subst oM;subst m_;simp only [qA,aE,aT,fl,Act.put,List.setIfInBounds_toArray,List.set_cons_zero,List.set_cons_succ] at dD ⊢;refine kR 4 (.tuple #[.agg cn,.agg cm,.agg cr,.int .i64 e0]) rfl ?_;go_frame;refine kR 5 (.agg cn) rfl ?_;go_frame;refine kR 6 (.agg cm) rfl ?_;go_frame;refine kR 7 (.agg cr) rfl ?_;go_frame;refine kR 8 (.int .i64 e0) rfl ?_;go_frame;exact dD X hS G h10 g10 vB cm cr h3
  have gG:∀X,PX w X s0 B C K D t rc→∀N,az X N (tz 0)→s0≤N→∀vB cm cr,Rq w X ll lj li lo pP n cm cr→Gw 11 (fl true true false true false false) (aE (qA 8 A0 N) vB cn cm cr e0) X:=by
   clear cH cO cP cV dw dD dU dX ez eY fq fT gp;intro X hS N h9 g9 vB cm cr h3;subst oM;subst m_;simp only [qA,aE,aT,fl,Act.put,List.setIfInBounds_toArray,List.set_cons_zero,List.set_cons_succ] at dO ⊢;refine kR 4 (.tuple #[.agg cn,.agg cm,.agg cr,.int .i64 e0]) rfl ?_;go_frame;refine kR 5 (.agg cn) rfl ?_;go_frame;refine kR 6 (.agg cm) rfl ?_;go_frame;refine kR 7 (.agg cr) rfl ?_;go_frame;refine kR 8 (.int .i64 e0) rfl ?_;go_frame;exact dO X hS N h9 g9 vB cm cr h3
  have iD:∀X,PX w X s0 B C K D t rc→∀vB cm cr,Rq w X ll lj li lo pP n cm cr→Gw 12 (fl true true false false false false) (aE A0 vB cn cm cr e0) X:=by
   clear cH cO cP cV dw dD dO dX ez eY fq fT gp gG;intro X hS vB cm cr h3;subst oM;subst m_;simp only [qA,aE,aT,fl,Act.put,List.setIfInBounds_toArray,List.set_cons_zero,List.set_cons_succ] at dU ⊢;refine kR 4 (.tuple #[.agg cn,.agg cm,.agg cr,.int .i64 e0]) rfl ?_;go_frame;refine kR 5 (.agg cn) rfl ?_;go_frame;refine kR 6 (.agg cm) rfl ?_;go_frame;refine kR 7 (.agg cr) rfl ?_;go_frame;refine kR 8 (.int .i64 e0) rfl ?_;go_frame;exact dU X hS vB cm cr h3
  have gq:∀X,PX w X s0 B C K D t rc→∀N,az X N (tz 0)→s0≤N→∀G,b7 X G cQ→s0≤G→∀A,bh X A rz→s0≤A→∀aW cW,bM X aW Jw→Gw 10 (fl true false false true true true) ((qA 10 (qA 9 (qA 8 A0 N) G) A).put (some 22) (.agg #[.slice aL nL cL,.slice aW nJ cW])) X:=by
   clear cH cO cP cV dw dD dO dU ez eY fq fT gp gG iD;intro X hS N h9 g9 G h10 g10 A h11 g11 aW cW h2;subst oM;subst m_;simp only [qA,aE,aT,fl,Act.put,List.setIfInBounds_toArray,List.set_cons_zero,List.set_cons_succ] at dX ⊢;refine wpAnyH_ready (rs:=[3]) (by kernel_rfl) (by simp) ?_;refine (AllReadyH.cons rfl (fun K9 bU=>?_) AllReadyH.nil)
   ·go_simp
    refine (HST.out X aW cW hS.aK h2).mono ?_;rintro r Y ⟨cm,cr,rfl,ya,hb⟩;go_wp2_with fail
    refine bU.out _ _ (hS.later hb) (fun _=>?_);exact dX Y (hS.later hb) N (h9.later hb) g9 G (br h10 hb) g10 A (h11.later hb) g11 _ cm cr ya
  have iE:∀X,PX w X s0 B C K D t rc→∀G,b7 X G cQ→s0≤G→∀A,bh X A rz→s0≤A→∀aW cW,bM X aW Jw→Gw 11 (fl true false false false true true) ((qA 10 (qA 9 A0 G) A).put (some 22) (.agg #[.slice aL nL cL,.slice aW nJ cW])) X:=by
   clear cH cO cP cV dw dD dO dU dX eY fq fT gp gG iD;intro X hS G h10 g10 A h11 g11 aW cW h2;subst oM;subst m_;simp only [qA,aE,aT,fl,Act.put,List.setIfInBounds_toArray,List.set_cons_zero,List.set_cons_succ] at gq ez ⊢;refine wpAnyH_ready (rs:=[3,9]) (by kernel_rfl) (by simp) ?_;refine (AllReadyH.cons rfl (fun K9 bU=>?_) (AllReadyH.cons rfl (fun K9 bU=>?_) AllReadyH.nil))
   ·go_simp
    refine (HST.out X aW cW hS.aK h2).mono ?_;rintro r Y ⟨cm,cr,rfl,ya,hb⟩;go_wp2_with fail
    refine bU.out _ _ (hS.later hb) (fun _=>?_);exact ez Y (hS.later hb) G (br h10 hb) g10 A (h11.later hb) g11 _ cm cr ya
   ·go_simp
    refine bU.out _ _ (hS.later (aa _ _)) (fun _=>?_);exact gq _ (hS.later (aa _ _)) X.heap.size (az.zero X) hS.sz G (br h10 (aa _ _)) g10 A (h11.later (aa _ _)) g11 aW cW (h2.later (aa _ _))
  have iQ:∀X,PX w X s0 B C K D t rc→∀N,az X N (tz 0)→s0≤N→∀A,bh X A rz→s0≤A→∀aW cW,bM X aW Jw→Gw 11 (fl true false false true false true) ((qA 10 (qA 8 A0 N) A).put (some 22) (.agg #[.slice aL nL cL,.slice aW nJ cW])) X:=by
   clear cH cO cP cV dw dD dO dU dX ez fq fT gp gG iD iE;intro X hS N h9 g9 A h11 g11 aW cW h2;subst oM;subst m_;simp only [qA,aE,aT,fl,Act.put,List.setIfInBounds_toArray,List.set_cons_zero,List.set_cons_succ] at gq eY ⊢;refine wpAnyH_ready (rs:=[3,10]) (by kernel_rfl) (by simp) ?_;refine (AllReadyH.cons rfl (fun K9 bU=>?_) (AllReadyH.cons rfl (fun K9 bU=>?_) AllReadyH.nil))
   ·go_simp
    refine (HST.out X aW cW hS.aK h2).mono ?_;rintro r Y ⟨cm,cr,rfl,ya,hb⟩;go_wp2_with fail
    refine bU.out _ _ (hS.later hb) (fun _=>?_);exact eY Y (hS.later hb) N (h9.later hb) g9 A (h11.later hb) g11 _ cm cr ya
   ·go_simp
    refine bU.out _ _ (hS.later (aa _ _)) (fun _=>?_);exact gq _ (hS.later (aa _ _)) N (h9.later (aa _ _)) g9 X.heap.size (heap_alloc_last X _) hS.sz A (h11.later (aa _ _)) g11 aW cW (h2.later (aa _ _))
  have jP:∀X,PX w X s0 B C K D t rc→∀N,az X N (tz 0)→s0≤N→∀G,b7 X G cQ→s0≤G→∀aW cW,bM X aW Jw→Gw 11 (fl true false false true true false) ((qA 9 (qA 8 A0 N) G).put (some 22) (.agg #[.slice aL nL cL,.slice aW nJ cW])) X:=by
   clear cH cO cP cV dw dD dO dU dX ez eY fT gp gG iD iE iQ;intro X hS N h9 g9 G h10 g10 aW cW h2;subst oM;subst m_;simp only [qA,aE,aT,fl,Act.put,List.setIfInBounds_toArray,List.set_cons_zero,List.set_cons_succ] at gq fq ⊢;refine wpAnyH_ready (rs:=[3,11]) (by kernel_rfl) (by simp) ?_;refine (AllReadyH.cons rfl (fun K9 bU=>?_) (AllReadyH.cons rfl (fun K9 bU=>?_) AllReadyH.nil))
   ·go_simp
    refine (HST.out X aW cW hS.aK h2).mono ?_;rintro r Y ⟨cm,cr,rfl,ya,hb⟩;go_wp2_with fail
    refine bU.out _ _ (hS.later hb) (fun _=>?_);exact fq Y (hS.later hb) N (h9.later hb) g9 G (br h10 hb) g10 _ cm cr ya
   ·go_simp
    refine bU.out _ _ (hS.later (aa _ _)) (fun _=>?_);exact gq _ (hS.later (aa _ _)) N (h9.later (aa _ _)) g9 G (br h10 (aa _ _)) g10 X.heap.size (heap_alloc_last X _) hS.sz aW cW (h2.later (aa _ _))
  have lq:∀X,PX w X s0 B C K D t rc→∀A,bh X A rz→s0≤A→∀aW cW,bM X aW Jw→Gw 12 (fl true false false false false true) ((qA 10 A0 A).put (some 22) (.agg #[.slice aL nL cL,.slice aW nJ cW])) X:=by
   clear cH cO cP cV dw dD dO dU dX ez eY fq gp gG iD gq jP;intro X hS A h11 g11 aW cW h2;subst oM;subst m_;simp only [qA,aE,aT,fl,Act.put,List.setIfInBounds_toArray,List.set_cons_zero,List.set_cons_succ] at iE iQ fT ⊢;refine wpAnyH_ready (rs:=[3,9,10]) (by kernel_rfl) (by simp) ?_;refine (AllReadyH.cons rfl (fun K9 bU=>?_) (AllReadyH.cons rfl (fun K9 bU=>?_) (AllReadyH.cons rfl (fun K9 bU=>?_) AllReadyH.nil)))
   ·go_simp
    refine (HST.out X aW cW hS.aK h2).mono ?_;rintro r Y ⟨cm,cr,rfl,ya,hb⟩;go_wp2_with fail
    refine bU.out _ _ (hS.later hb) (fun _=>?_);exact fT Y (hS.later hb) A (h11.later hb) g11 _ cm cr ya
   ·go_simp
    refine bU.out _ _ (hS.later (aa _ _)) (fun _=>?_);exact iQ _ (hS.later (aa _ _)) X.heap.size (az.zero X) hS.sz A (h11.later (aa _ _)) g11 aW cW (h2.later (aa _ _))
   ·go_simp
    refine bU.out _ _ (hS.later (aa _ _)) (fun _=>?_);exact iE _ (hS.later (aa _ _)) X.heap.size (heap_alloc_last X _) hS.sz A (h11.later (aa _ _)) g11 aW cW (h2.later (aa _ _))
  have mh:∀X,PX w X s0 B C K D t rc→∀G,b7 X G cQ→s0≤G→∀aW cW,bM X aW Jw→Gw 12 (fl true false false false true false) ((qA 9 A0 G).put (some 22) (.agg #[.slice aL nL cL,.slice aW nJ cW])) X:=by
   clear cH cO cP cV dw dD dO dU dX ez eY fq fT gG iD gq iQ lq;intro X hS G h10 g10 aW cW h2;subst oM;subst m_;simp only [qA,aE,aT,fl,Act.put,List.setIfInBounds_toArray,List.set_cons_zero,List.set_cons_succ] at iE jP gp ⊢;refine wpAnyH_ready (rs:=[3,9,11]) (by kernel_rfl) (by simp) ?_;refine (AllReadyH.cons rfl (fun K9 bU=>?_) (AllReadyH.cons rfl (fun K9 bU=>?_) (AllReadyH.cons rfl (fun K9 bU=>?_) AllReadyH.nil)))
   ·go_simp
    refine (HST.out X aW cW hS.aK h2).mono ?_;rintro r Y ⟨cm,cr,rfl,ya,hb⟩;go_wp2_with fail
    refine bU.out _ _ (hS.later hb) (fun _=>?_);exact gp Y (hS.later hb) G (br h10 hb) g10 _ cm cr ya
   ·go_simp
    refine bU.out _ _ (hS.later (aa _ _)) (fun _=>?_);exact jP _ (hS.later (aa _ _)) X.heap.size (az.zero X) hS.sz G (br h10 (aa _ _)) g10 aW cW (h2.later (aa _ _))
   ·go_simp
    refine bU.out _ _ (hS.later (aa _ _)) (fun _=>?_);exact iE _ (hS.later (aa _ _)) G (br h10 (aa _ _)) g10 X.heap.size (heap_alloc_last X _) hS.sz aW cW (h2.later (aa _ _))
  have nT:∀X,PX w X s0 B C K D t rc→∀N,az X N (tz 0)→s0≤N→∀aW cW,bM X aW Jw→Gw 12 (fl true false false true false false) ((qA 8 A0 N).put (some 22) (.agg #[.slice aL nL cL,.slice aW nJ cW])) X:=by
   clear cH cO cP cV dw dD dO dU dX ez eY fq fT gp iD gq iE lq mh;intro X hS N h9 g9 aW cW h2;subst oM;subst m_;simp only [qA,aE,aT,fl,Act.put,List.setIfInBounds_toArray,List.set_cons_zero,List.set_cons_succ] at iQ jP gG ⊢;refine wpAnyH_ready (rs:=[3,10,11]) (by kernel_rfl) (by simp) ?_;refine (AllReadyH.cons rfl (fun K9 bU=>?_) (AllReadyH.cons rfl (fun K9 bU=>?_) (AllReadyH.cons rfl (fun K9 bU=>?_) AllReadyH.nil)))
   ·go_simp
    refine (HST.out X aW cW hS.aK h2).mono ?_;rintro r Y ⟨cm,cr,rfl,ya,hb⟩;go_wp2_with fail
    refine bU.out _ _ (hS.later hb) (fun _=>?_);exact gG Y (hS.later hb) N (h9.later hb) g9 _ cm cr ya
   ·go_simp
    refine bU.out _ _ (hS.later (aa _ _)) (fun _=>?_);exact jP _ (hS.later (aa _ _)) N (h9.later (aa _ _)) g9 X.heap.size (heap_alloc_last X _) hS.sz aW cW (h2.later (aa _ _))
   ·go_simp
    refine bU.out _ _ (hS.later (aa _ _)) (fun _=>?_);exact iQ _ (hS.later (aa _ _)) N (h9.later (aa _ _)) g9 X.heap.size (heap_alloc_last X _) hS.sz aW cW (h2.later (aa _ _))
  have rh:∀X,PX w X s0 B C K D t rc→∀aW cW,bM X aW Jw→Gw 13 (fl true false false false false false) (A0.put (some 22) (.agg #[.slice aL nL cL,.slice aW nJ cW])) X:=by
   clear cH cO cP cV dw dD dO dU dX ez eY fq fT gp gG gq iE iQ jP;intro X hS aW cW h2;subst oM;subst m_;simp only [qA,aE,aT,fl,Act.put,List.setIfInBounds_toArray,List.set_cons_zero,List.set_cons_succ] at lq mh nT iD ⊢;refine wpAnyH_ready (rs:=[3,9,10,11]) (by kernel_rfl) (by simp) ?_;refine (AllReadyH.cons rfl (fun K9 bU=>?_) (AllReadyH.cons rfl (fun K9 bU=>?_) (AllReadyH.cons rfl (fun K9 bU=>?_) (AllReadyH.cons rfl (fun K9 bU=>?_) AllReadyH.nil))))
   ·go_simp
    refine (HST.out X aW cW hS.aK h2).mono ?_;rintro r Y ⟨cm,cr,rfl,ya,hb⟩;go_wp2_with fail
    refine bU.out _ _ (hS.later hb) (fun _=>?_);exact iD Y (hS.later hb) _ cm cr ya
   ·go_simp
    refine bU.out _ _ (hS.later (aa _ _)) (fun _=>?_);exact nT _ (hS.later (aa _ _)) X.heap.size (az.zero X) hS.sz aW cW (h2.later (aa _ _))
   ·go_simp
    refine bU.out _ _ (hS.later (aa _ _)) (fun _=>?_);exact mh _ (hS.later (aa _ _)) X.heap.size (heap_alloc_last X _) hS.sz aW cW (h2.later (aa _ _))
   ·go_simp
    refine bU.out _ _ (hS.later (aa _ _)) (fun _=>?_);exact lq _ (hS.later (aa _ _)) X.heap.size (heap_alloc_last X _) hS.sz aW cW (h2.later (aa _ _))
  have oU:∀X,PX w X s0 B C K D t rc→∀N,az X N (tz 0)→s0≤N→∀G,b7 X G cQ→s0≤G→∀A,bh X A rz→s0≤A→Gw 11 (fl false false false true true true) (qA 10 (qA 9 (qA 8 A0 N) G) A) X:=by
   clear cH cO cP cV dw dD dO dU dX ez eY fq fT gp gG iD iE iQ jP lq mh nT rh;intro X hS N h9 g9 G h10 g10 A h11 g11;subst oM;subst m_;simp only [qA,aE,aT,fl,Act.put,List.setIfInBounds_toArray,List.set_cons_zero,List.set_cons_succ] at gq ⊢;refine wpAnyH_ready (rs:=[2]) (by kernel_rfl) (by simp) ?_;refine (AllReadyH.cons rfl (fun K9 bU=>?_) AllReadyH.nil)
   ·go_simp
    refine (Mw.out X hS.aK).mono ?_;rintro r Y ⟨vW,rfl,hrow,hb⟩;obtain ⟨aW,cW,rfl⟩:=ah hrow;go_wp2_with fail
    refine bU.out _ _ (hS.later hb) (fun _=>?_);exact gq Y (hS.later hb) N (h9.later hb) g9 G (br h10 hb) g10 A (h11.later hb) g11 aW cW (RZ.out _ _ _ ⟨_,hrow⟩)
  have tZ:∀X,PX w X s0 B C K D t rc→∀G,b7 X G cQ→s0≤G→∀A,bh X A rz→s0≤A→Gw 12 (fl false false false false true true) (qA 10 (qA 9 A0 G) A) X:=by
   clear cH cO cP cV dw dD dO dU dX ez eY fq fT gp gG iD gq iQ jP lq mh nT rh;intro X hS G h10 g10 A h11 g11;subst oM;subst m_;simp only [qA,aE,aT,fl,Act.put,List.setIfInBounds_toArray,List.set_cons_zero,List.set_cons_succ] at oU iE ⊢;refine wpAnyH_ready (rs:=[2,9]) (by kernel_rfl) (by simp) ?_;refine (AllReadyH.cons rfl (fun K9 bU=>?_) (AllReadyH.cons rfl (fun K9 bU=>?_) AllReadyH.nil))
   ·go_simp
    refine (Mw.out X hS.aK).mono ?_;rintro r Y ⟨vW,rfl,hrow,hb⟩;obtain ⟨aW,cW,rfl⟩:=ah hrow;go_wp2_with fail
    refine bU.out _ _ (hS.later hb) (fun _=>?_);exact iE Y (hS.later hb) G (br h10 hb) g10 A (h11.later hb) g11 aW cW (RZ.out _ _ _ ⟨_,hrow⟩)
   ·go_simp
    refine bU.out _ _ (hS.later (aa _ _)) (fun _=>?_);exact oU _ (hS.later (aa _ _)) X.heap.size (az.zero X) hS.sz G (br h10 (aa _ _)) g10 A (h11.later (aa _ _)) g11
  have xy:∀X,PX w X s0 B C K D t rc→∀N,az X N (tz 0)→s0≤N→∀A,bh X A rz→s0≤A→Gw 12 (fl false false false true false true) (qA 10 (qA 8 A0 N) A) X:=by
   clear cH cO cP cV dw dD dO dU dX ez eY fq fT gp gG iD gq iE jP lq mh nT rh tZ;intro X hS N h9 g9 A h11 g11;subst oM;subst m_;simp only [qA,aE,aT,fl,Act.put,List.setIfInBounds_toArray,List.set_cons_zero,List.set_cons_succ] at oU iQ ⊢;refine wpAnyH_ready (rs:=[2,10]) (by kernel_rfl) (by simp) ?_;refine (AllReadyH.cons rfl (fun K9 bU=>?_) (AllReadyH.cons rfl (fun K9 bU=>?_) AllReadyH.nil))
   ·go_simp
    refine (Mw.out X hS.aK).mono ?_;rintro r Y ⟨vW,rfl,hrow,hb⟩;obtain ⟨aW,cW,rfl⟩:=ah hrow;go_wp2_with fail
    refine bU.out _ _ (hS.later hb) (fun _=>?_);exact iQ Y (hS.later hb) N (h9.later hb) g9 A (h11.later hb) g11 aW cW (RZ.out _ _ _ ⟨_,hrow⟩)
   ·go_simp
    refine bU.out _ _ (hS.later (aa _ _)) (fun _=>?_);exact oU _ (hS.later (aa _ _)) N (h9.later (aa _ _)) g9 X.heap.size (heap_alloc_last X _) hS.sz A (h11.later (aa _ _)) g11
  have zG:∀X,PX w X s0 B C K D t rc→∀N,az X N (tz 0)→s0≤N→∀G,b7 X G cQ→s0≤G→Gw 12 (fl false false false true true false) (qA 9 (qA 8 A0 N) G) X:=by
   clear cH cO cP cV dw dD dO dU dX ez eY fq fT gp gG iD gq iE iQ lq mh nT rh tZ xy;intro X hS N h9 g9 G h10 g10;subst oM;subst m_;simp only [qA,aE,aT,fl,Act.put,List.setIfInBounds_toArray,List.set_cons_zero,List.set_cons_succ] at oU jP ⊢;refine wpAnyH_ready (rs:=[2,11]) (by kernel_rfl) (by simp) ?_;refine (AllReadyH.cons rfl (fun K9 bU=>?_) (AllReadyH.cons rfl (fun K9 bU=>?_) AllReadyH.nil))
   ·go_simp
    refine (Mw.out X hS.aK).mono ?_;rintro r Y ⟨vW,rfl,hrow,hb⟩;obtain ⟨aW,cW,rfl⟩:=ah hrow;go_wp2_with fail
    refine bU.out _ _ (hS.later hb) (fun _=>?_);exact jP Y (hS.later hb) N (h9.later hb) g9 G (br h10 hb) g10 aW cW (RZ.out _ _ _ ⟨_,hrow⟩)
   ·go_simp
    refine bU.out _ _ (hS.later (aa _ _)) (fun _=>?_);exact oU _ (hS.later (aa _ _)) N (h9.later (aa _ _)) g9 G (br h10 (aa _ _)) g10 X.heap.size (heap_alloc_last X _) hS.sz
  have JY:∀X,PX w X s0 B C K D t rc→∀A,bh X A rz→s0≤A→Gw 13 (fl false false false false false true) (qA 10 A0 A) X:=by
   clear cH cO cP cV dw dD dO dU dX ez eY fq fT gp gG iD gq iE iQ jP mh nT rh oU zG;intro X hS A h11 g11;subst oM;subst m_;simp only [qA,aE,aT,fl,Act.put,List.setIfInBounds_toArray,List.set_cons_zero,List.set_cons_succ] at tZ xy lq ⊢;refine wpAnyH_ready (rs:=[2,9,10]) (by kernel_rfl) (by simp) ?_;refine (AllReadyH.cons rfl (fun K9 bU=>?_) (AllReadyH.cons rfl (fun K9 bU=>?_) (AllReadyH.cons rfl (fun K9 bU=>?_) AllReadyH.nil)))
   ·go_simp
    refine (Mw.out X hS.aK).mono ?_;rintro r Y ⟨vW,rfl,hrow,hb⟩;obtain ⟨aW,cW,rfl⟩:=ah hrow;go_wp2_with fail
    refine bU.out _ _ (hS.later hb) (fun _=>?_);exact lq Y (hS.later hb) A (h11.later hb) g11 aW cW (RZ.out _ _ _ ⟨_,hrow⟩)
   ·go_simp
    refine bU.out _ _ (hS.later (aa _ _)) (fun _=>?_);exact xy _ (hS.later (aa _ _)) X.heap.size (az.zero X) hS.sz A (h11.later (aa _ _)) g11
   ·go_simp
    refine bU.out _ _ (hS.later (aa _ _)) (fun _=>?_);exact tZ _ (hS.later (aa _ _)) X.heap.size (heap_alloc_last X _) hS.sz A (h11.later (aa _ _)) g11
  have R8:∀X,PX w X s0 B C K D t rc→∀G,b7 X G cQ→s0≤G→Gw 13 (fl false false false false true false) (qA 9 A0 G) X:=by
   clear cH cO cP cV dw dD dO dU dX ez eY fq fT gp gG iD gq iE iQ jP lq nT rh oU xy JY;intro X hS G h10 g10;subst oM;subst m_;simp only [qA,aE,aT,fl,Act.put,List.setIfInBounds_toArray,List.set_cons_zero,List.set_cons_succ] at tZ zG mh ⊢;refine wpAnyH_ready (rs:=[2,9,11]) (by kernel_rfl) (by simp) ?_;refine (AllReadyH.cons rfl (fun K9 bU=>?_) (AllReadyH.cons rfl (fun K9 bU=>?_) (AllReadyH.cons rfl (fun K9 bU=>?_) AllReadyH.nil)))
   ·go_simp
    refine (Mw.out X hS.aK).mono ?_;rintro r Y ⟨vW,rfl,hrow,hb⟩;obtain ⟨aW,cW,rfl⟩:=ah hrow;go_wp2_with fail
    refine bU.out _ _ (hS.later hb) (fun _=>?_);exact mh Y (hS.later hb) G (br h10 hb) g10 aW cW (RZ.out _ _ _ ⟨_,hrow⟩)
   ·go_simp
    refine bU.out _ _ (hS.later (aa _ _)) (fun _=>?_);exact zG _ (hS.later (aa _ _)) X.heap.size (az.zero X) hS.sz G (br h10 (aa _ _)) g10
   ·go_simp
    refine bU.out _ _ (hS.later (aa _ _)) (fun _=>?_);exact tZ _ (hS.later (aa _ _)) G (br h10 (aa _ _)) g10 X.heap.size (heap_alloc_last X _) hS.sz
  have Xm:∀X,PX w X s0 B C K D t rc→∀N,az X N (tz 0)→s0≤N→Gw 13 (fl false false false true false false) (qA 8 A0 N) X:=by
   clear cH cO cP cV dw dD dO dU dX ez eY fq fT gp gG iD gq iE iQ jP lq mh rh oU tZ JY R8;intro X hS N h9 g9;subst oM;subst m_;simp only [qA,aE,aT,fl,Act.put,List.setIfInBounds_toArray,List.set_cons_zero,List.set_cons_succ] at xy zG nT ⊢;refine wpAnyH_ready (rs:=[2,10,11]) (by kernel_rfl) (by simp) ?_;refine (AllReadyH.cons rfl (fun K9 bU=>?_) (AllReadyH.cons rfl (fun K9 bU=>?_) (AllReadyH.cons rfl (fun K9 bU=>?_) AllReadyH.nil)))
   ·go_simp
    refine (Mw.out X hS.aK).mono ?_;rintro r Y ⟨vW,rfl,hrow,hb⟩;obtain ⟨aW,cW,rfl⟩:=ah hrow;go_wp2_with fail
    refine bU.out _ _ (hS.later hb) (fun _=>?_);exact nT Y (hS.later hb) N (h9.later hb) g9 aW cW (RZ.out _ _ _ ⟨_,hrow⟩)
   ·go_simp
    refine bU.out _ _ (hS.later (aa _ _)) (fun _=>?_);exact zG _ (hS.later (aa _ _)) N (h9.later (aa _ _)) g9 X.heap.size (heap_alloc_last X _) hS.sz
   ·go_simp
    refine bU.out _ _ (hS.later (aa _ _)) (fun _=>?_);exact xy _ (hS.later (aa _ _)) N (h9.later (aa _ _)) g9 X.heap.size (heap_alloc_last X _) hS.sz
  have ace:∀X,PX w X s0 B C K D t rc→Gw 14 (fl false false false false false false) A0 X:=by
   clear cH cO cP cV dw dD dO dU dX ez eY fq fT gp gG iD gq iE iQ jP lq mh nT oU tZ xy zG;intro X hS;subst oM;subst m_;simp only [qA,aE,aT,fl,Act.put,List.setIfInBounds_toArray,List.set_cons_zero,List.set_cons_succ] at JY R8 Xm rh ⊢;refine wpAnyH_ready (rs:=[2,9,10,11]) (by kernel_rfl) (by simp) ?_;refine (AllReadyH.cons rfl (fun K9 bU=>?_) (AllReadyH.cons rfl (fun K9 bU=>?_) (AllReadyH.cons rfl (fun K9 bU=>?_) (AllReadyH.cons rfl (fun K9 bU=>?_) AllReadyH.nil))))
   ·go_simp
    refine (Mw.out X hS.aK).mono ?_;rintro r Y ⟨vW,rfl,hrow,hb⟩;obtain ⟨aW,cW,rfl⟩:=ah hrow;go_wp2_with fail
    refine bU.out _ _ (hS.later hb) (fun _=>?_);exact rh Y (hS.later hb) aW cW (RZ.out _ _ _ ⟨_,hrow⟩)
   ·go_simp
    refine bU.out _ _ (hS.later (aa _ _)) (fun _=>?_);exact Xm _ (hS.later (aa _ _)) X.heap.size (az.zero X) hS.sz
   ·go_simp
    refine bU.out _ _ (hS.later (aa _ _)) (fun _=>?_);exact R8 _ (hS.later (aa _ _)) X.heap.size (heap_alloc_last X _) hS.sz
   ·go_simp
    refine bU.out _ _ (hS.later (aa _ _)) (fun _=>?_);exact JY _ (hS.later (aa _ _)) X.heap.size (heap_alloc_last X _) hS.sz
  exact ace X0 dm
end Go.Proofs.YtanaapfobpgibaaGreatDoor.Rc
