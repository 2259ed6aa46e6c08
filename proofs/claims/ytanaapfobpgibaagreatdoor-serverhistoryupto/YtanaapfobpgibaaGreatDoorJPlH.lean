/- PlH, PlMath4, PlI, PlP0, PlK0, joined. -/
import Derived.Test.YtanaapfobpgibaaGreatDoorPlG
open Go.Proofs.Tryz
namespace Go.Proofs.YtanaapfobpgibaaGreatDoor
open Go.RowKit Go.Maps Go.Great
open Rt (Ky zK bF)
open Rs (En zE aU cN bM iC ps eA Tb)
set_option linter.unusedVariables false
set_option linter.unusedSimpArgs false
set_option maxRecDepth 100000 in
set_option maxHeartbeats 2000000 in
theorem yM (t:Tr) (aL aJ:Option Addr) (cL cJ:Nat) (L J:List Int) (w:World) (lL:L.length<1152921504606846976) (lJ:J.length<1152921504606846976) (hL:bM w aL L) (hJ:bM w aJ J):
  Calls prog 11 #[.agg (aC t),.agg #[.slice aL L.length cL,.slice aJ J.length cJ]] w fun e w'=>gF w w' t L J e∧Below w.heap.size w w':=by
 have hX:=NX.new w t aL aJ L.length J.length cL cJ;unfold cQ at hX;obtain ⟨ct,bQ⟩:∃c,aC t=c:=⟨_,rfl⟩;have HT:Hid (aC t=ct):=bQ;clear bQ;go_enter func11,ntmps11;go_upto_region 1 with (fail)
 rw [fu];generalize (((w.alloc (.cells (aC t) 39)).alloc (.cells #[.slice aL L.length cL,.slice aJ J.length cJ] 43)).alloc (.cells (aC (tz 0)) 39)).alloc (.cells #[.int .i64 0,.slice none 0 0,.slice none 0 0,.slice none 0 0] 54)=w1 at *;rw [HT.out];obtain ⟨D,hD⟩:∃D,w.heap.size+3=D:=⟨_,rfl⟩;obtain ⟨K,hK⟩:∃D,w.heap.size+2=D:=⟨_,rfl⟩;obtain ⟨C,hC⟩:∃D,w.heap.size+1=D:=⟨_,rfl⟩;obtain ⟨B,hB⟩:∃D,w.heap.size=D:=⟨_,rfl⟩;rw [hD,hK,hC,hB] at hX ⊢;clear hD hK hC hB;have h1:=CD t aL aJ cL cJ L J w1 lL lJ (hL.later hX.tb.aK) (hJ.later hX.tb.aK);rw [HT.out] at h1;have jT:=hX.tb.tr;obtain ⟨d0,d1⟩:=hX.tb.bt.cells;go_wp2_with (refine pV jT HT.out _ rfl rfl rfl ?_)
 refine h1.mono ?_;rintro r w2 ⟨⟨vl,vj,rfl,Gl⟩,hb2⟩;have kV:=hX.later hb2;have Bx:Hid (w.heap.size≤w1.heap.size):=hX.tb.aK.size;have Xd:Hid (w2.ownsRow w1.heap.size 113 2 vl (fx t L J).length (ps (fx t L J))):=Gl.left;have HJF:Hid (w2.ownsRow w1.heap.size 113 2 vj (bO t L J).length (ps (bO t L J))):=Gl.join;have rb:Hid (vl.ownBlock=none∨vl.ownBlock≠vj.ownBlock):=Gl.apart;obtain ⟨a1,aS,rfl⟩:=Rs.ah Xd.out;obtain ⟨a2,dc,rfl⟩:=Rs.ah HJF.out;have hz2:az (w2.alloc (.cells zeroCells39 39)) w2.heap.size (tz 0):=az.zero w2;obtain ⟨cp,hcp⟩:∃c,aC (cZ t L J)=c:=⟨_,rfl⟩;have R4:Hid (aC (cZ t L J)=cp):=hcp;rw [hcp];clear h1 hX jT hb2 d0 d1 Gl hcp;obtain ⟨E,hE⟩:∃E,b_ t L J=E:=⟨_,rfl⟩;rw [hE];obtain ⟨ll,pI⟩:∃l,fx t L J=l:=⟨_,rfl⟩;obtain ⟨lj,mi⟩:∃l,bO t L J=l:=⟨_,rfl⟩;rw [pI] at Xd rb;rw [mi] at HJF rb;rw [pI,mi];have EI:Hid (fx t L J=ll):=pI;have Em:Hid (bO t L J=lj):=mi;clear pI mi;go_upto_region 2 with (refine eE hz2 R4.out rfl _ _ rfl rfl rfl ?_)
 rw [ot,World.setRow_alloc_new];have dZ:=aa w2 (.cells cp 39);have kG:=kV.later dZ;have EG:az (w2.alloc (.cells cp 39)) w2.heap.size (cZ t L J):=by rw [←R4.out];exact az.new _ _
 have ab2:Hid ((w2.alloc (.cells cp 39)).ownsRow w1.heap.size 113 2 (.slice a1 ll.length aS) ll.length (ps ll)):=Rs.ar Xd.out dZ;have ab3:Hid ((w2.alloc (.cells cp 39)).ownsRow w1.heap.size 113 2 (.slice a2 lj.length dc) lj.length (ps lj)):=Rs.ar HJF.out dZ;have hne:w2.heap.size≠K:=fun e=>by have:=kV.ze.lt;omega
 clear hz2 kV Xd HJF dZ;generalize w2.alloc (.cells cp 39)=w3 at *;generalize w2.heap.size=N at *;by_cases jU:E=0
 ·subst jU;have hst:=j9 hE;have HST:Hid (ku t L J):=hst;have HE:Hid (b_ t L J=0):=hE;have e1:cZ t L J=nx t L J:=by unfold cZ;rw [if_pos hE]
  have sS:Hid (eA t.ro L=ll):=by have h:=EI.out;unfold fx at h;rw [if_pos hE] at h;exact h
  have u6:Hid (kF t L J=lj):=by have h:=Em.out;unfold bO at h;rw [if_pos hE] at h;exact h
  rw [e1] at EG R4;have abb:ll.length≤64:=by rw [←sS.out,Rs.ew];exact hst.fit.CV
  have PF:lj.length≤64:=by have h:=hst.fit.CW;rw [←u6.out];unfold kF;rw [Rs.bX];exact h
  obtain ⟨P,hP⟩:∃P,t.ep+1=P:=⟨_,rfl⟩;have HP:Hid (t.ep+1=P):=hP;have JU:Hid ((nx t L J).ep=P):=hP
  have dm:NF w w3.drew N K D (nx t L J) (.slice a1 ll.length aS) (.slice a2 lj.length dc) ll lj:=
   NF.later ⟨EG,⟨_,kG.ze⟩,⟨cQ,rfl,kG.rk⟩,Rs.aV ab2.out Bx.out,Rs.aV ab3.out Bx.out,kG.tb.aK,hne,kG.gK,kG.gD⟩ (aG _)
  have Bz:Hid (uD t L=rp ll):=by unfold Hid uD;rw [sS.out]
  obtain ⟨n,hn⟩:∃n,nx t L J=n:=⟨_,rfl⟩;have yr:Hid (nx t L J=n):=hn;have tA:gu n=true:=by rw [←hn];exact hst.XF
  have qB:∀p∈lj,∃s:Nat,s<64∧p.2=(s:Int)∧cN (n.ro s)=true:=fun p hp=>by
   rw [←u6.out] at hp;obtain ⟨s,h1,h2,h3,_⟩:=HST.out.seat hp;exact ⟨s,h1,h2,by rw [←hn];exact h3⟩
  rw [hn] at dm R4 JU;have hit:∀W:World,W.ownsRow w.heap.size 113 2 (.slice a1 ll.length aS) ll.length (ps ll)→W.ownsRow w.heap.size 113 2 (.slice a2 lj.length dc) lj.length (ps lj)→_:=fun W hW1 hW2=>Fm n tA a1 aS ll a2 dc lj W abb (Ab hW1) PF (Ab hW2) qB
  rw [R4.out] at hit;clear hE hst e1 hn kG EG ab2 ab3 hne hP;go_upto_region 4 with (fail)
  refine wp_region_held_drew (S:=fun W=>NF w W N K D n (.slice a1 ll.length aS) (.slice a2 lj.length dc) ll lj) (by kernel_rfl) dm (fun hHeld=>?_);refine dG 0 (.agg cp) rfl (fun w hSw=>bB (R4.out ▸ hSw.nx.whole) rfl rfl) ?_;go_frame;refine aH 1 (.pointer (some ⟨N,0,none⟩)) rfl ?_;go_frame;refine dG 2 (.int .i64 P) rfl (fun w hSw=>by obtain ⟨c0,c1⟩:=hSw.nx.cells;rw [JU.out] at c0;clear hSw;go_simp) ?_;go_frame;refine aH 3 (.slice a1 ll.length aS) rfl ?_;go_frame;refine aH 4 (.slice a2 lj.length dc) rfl ?_;go_frame;refine dG 5 (.agg cp) rfl (fun w hSw=>bB (R4.out ▸ hSw.nx.whole) rfl rfl) ?_;go_frame;refine aH 6 (.slice a1 ll.length aS) rfl ?_;go_frame;refine aH 7 (.slice a2 lj.length dc) rfl ?_;go_frame;refine dh 8 rfl fun K hK=>?_;go_simp
  refine (hit _ hHeld.left hHeld.join).mono ?_;rintro r xA hip;obtain ⟨vi,rfl,hrow,m7⟩:=hip;obtain ⟨a3,jb,rfl⟩:=Rs.ah hrow;have dF:Hid (xA.ownsRow (w3.drew.heap.size+1) 103 6 (.slice a3 (its n (rp ll) lj).length jb) (its n (rp ll) lj).length (kU (its n (rp ll) lj))):=hrow;have BV:Hid (w.heap.size≤w3.drew.heap.size+1):=by have:=hHeld.aK.size;unfold Hid;omega
  clear hrow;go_wp2_with fail
  refine hK.out _ _ (hHeld.later m7) (fun aD=>?_);clear hHeld m7 hit;clear hK K;try go_frame
  refine aH 9 (.agg #[.int .i64 P,.slice a1 ll.length aS,.slice a2 lj.length dc,.slice a3 (its n (rp ll) lj).length jb]) rfl ?_;go_frame;refine dh 10 rfl fun Kc hK=>?_;obtain ⟨u,hu⟩:=aD.ze;obtain ⟨EG,AR⟩:=aD.Kl R4.out;have Ej:Hid ((xA.setRow K cp).ownsRow w.heap.size 103 6 (.slice a3 (its n (rp ll) lj).length jb) (its n (rp ll) lj).length (kU (its n (rp ll) lj))):=Rs.aP (Rs.aV dF.out BV.out) hu (by decide) _;refine iu rfl (bR 39 _ _ rfl K cp rfl rfl 39 (aC u) hu (by rw [←R4.out,aZ];exact jz) (by rw [←R4.out,aZ,aZ]) (by rw [←R4.out];exact j5 n) rfl ?_);refine hK.out _ _ EG (fun aN=>?_);clear aD hu EG;clear hK Kc;try go_frame
  refine dh 11 rfl fun Kc hK=>?_;obtain ⟨Zx,PZ,Dq⟩:=aN.rk;obtain ⟨Dr,I0,Gk⟩:=aN.Km (ds:=#[.int .i64 P,.slice a1 ll.length aS,.slice a2 lj.length dc,.slice a3 (its n (rp ll) lj).length jb]) AR Dq rfl;have jO:Hid (((xA.setRow K cp).setRow D #[.int .i64 P,.slice a1 ll.length aS,.slice a2 lj.length dc,.slice a3 (its n (rp ll) lj).length jb]).ownsRow w.heap.size 103 6 (.slice a3 (its n (rp ll) lj).length jb) (its n (rp ll) lj).length (kU (its n (rp ll) lj))):=Rs.aP Ej.out Dq (by decide) _;refine iu rfl (bR 54 _ _ rfl D _ rfl rfl 54 Zx Dq cS PZ (by simp [Value.oneCell']) rfl ?_);refine hK.out _ _ Dr (fun bK=>?_);clear aN Dq Dr;clear hK Kc;try go_frame
  refine aH 12 (.int .i64 0) rfl ?_;go_frame;refine wpAnyH_done (by kernel_rfl) ?_ _;have AH:∃w13,(xA.setRow K cp).setRow D #[.int .i64 P,.slice a1 ll.length aS,.slice a2 lj.length dc,.slice a3 (its n (rp ll) lj).length jb]=w13:=⟨_,rfl⟩;obtain ⟨w13,AH⟩:=AH;rw [AH] at I0 Gk jO bK ⊢;clear AH Ej dF AR qB;obtain ⟨li,rv⟩:∃li,its n (rp ll) lj=li:=⟨_,rfl⟩;have HLI:Hid (its n (rp ll) lj=li):=rv;rw [rv] at Gk jO ⊢;clear rv;go_wp2_with fail
  refine bodyPost_ret (dz (p:=4) (q:=5) (t:=6) rfl _ _ K D n _ rfl rfl I0 Gk rfl) rfl ?_;refine ⟨?_,bK.aK⟩;have PV:=gF.yes (w:=w) HST.out.pl (by rw [sS.out];exact bK.left) (by rw [u6.out];exact bK.join) (by rw [yr.out,Bz.out,u6.out,HLI.out];exact jO.out) rb.out;rw [yr.out,HP.out] at PV;exact PV
 ·have Ww:(E !=0)=true:=by simpa using jU
  have HE:Hid (b_ t L J=E):=hE;have l8:Hid (E≠0):=jU;have hX:=kG;have hZ:=kG.ze;obtain ⟨cz,fW⟩:∃c,aC (tz 0)=c:=⟨_,rfl⟩;have HZ:Hid (aC (tz 0)=cz):=fW;have gy:=kG.Nf (tz 0) fW;clear fW hE jU kG EG hne;go_wp2_with (first | (refine Jy HZ.out rfl rfl ?_) | (refine eE hZ HZ.out rfl _ _ rfl rfl rfl ?_) | (refine gN cS (cs:=cQ) bw gy.2.1 cQ bw j8 rfl _ _ rfl rfl rfl ?_))
  refine bodyPost_ret (dz (p:=4) (q:=5) (t:=6) rfl _ _ K D (tz 0) cQ rfl rfl ((Rt.aq (ay gy.1 gy.2.1 (by decide)) _).trans gy.1) (Rt.ai gy.2.1 _) rfl) rfl ?_;exact ⟨gF.no HE.out l8.out,Rt.ag hX.gD gy.2.2 _⟩
open Rs (eA)
set_option maxRecDepth 4000
def t3:Tr:=nx j6 [] [1,2,3]
theorem kx (p:Int) (a b c:Option Addr) (l m n i j k:Nat):(#[.int .i64 p,.slice a l i,.slice b m j,.slice c n k]:Array Value).all (·.oneCell')=true:=by simp [Value.oneCell']
/- An answer's two boxes. -/
theorem cM (w:World) (u:Tr) (c cs:Array Value) (hc:aC u=c):
  az ((w.alloc (.cells zeroCells39 39)).alloc (.cells #[.int .i64 0,.slice none 0 0,.slice none 0 0,.slice none 0 0] 54)) w.heap.size (tz 0)
  ∧b7 (((w.alloc (.cells zeroCells39 39)).alloc (.cells #[.int .i64 0,.slice none 0 0,.slice none 0 0,.slice none 0 0] 54)).setRow w.heap.size c) (w.heap.size+1) cQ
  ∧∃W,(((w.alloc (.cells zeroCells39 39)).alloc (.cells #[.int .i64 0,.slice none 0 0,.slice none 0 0,.slice none 0 0] 54)).setRow w.heap.size c).setRow (w.heap.size+1) cs=W∧az W w.heap.size u∧b7 W (w.heap.size+1) cs∧Below w.heap.size w W:=by
 rw [ot];have h1:=az.new w (tz 0);have hb1:=cG w (tz 0)
 have h2:b7 ((w.alloc (.cells (aC (tz 0)) 39)).alloc (.cells #[.int .i64 0,.slice none 0 0,.slice none 0 0,.slice none 0 0] 54)) (w.heap.size+1) cQ:=by
  have h:=heap_alloc_last (w.alloc (.cells (aC (tz 0)) 39)) (.cells #[.int .i64 0,.slice none 0 0,.slice none 0 0,.slice none 0 0] 54);rw [World.size_alloc] at h;exact h
 have hb2:=aa (w.alloc (.cells (aC (tz 0)) 39)) (.cells #[.int .i64 0,.slice none 0 0,.slice none 0 0,.slice none 0 0] 54);have h3:=h1.later hb2;have hb:=hb1.trans (hb2.mono hb1.size);generalize (w.alloc (.cells (aC (tz 0)) 39)).alloc (.cells #[.int .i64 0,.slice none 0 0,.slice none 0 0,.slice none 0 0] 54)=W at *;subst hc;have h4:b7 (W.setRow w.heap.size (aC u)) (w.heap.size+1) cQ:=(Rt.aq (by omega) _).trans h2;have h5:=h3.row u;exact ⟨h3,h4,_,rfl,(Rt.aq (by omega) _).trans h5,Rt.ai h4 _,Rt.ag (by omega) (Rt.ag (by omega) hb _) _⟩
open Go.RowKit Go.Maps
open Rs (iC bM ps eA cell_later)
variable {w:World}
def oQ (w:World) (a:Option Addr) (l:List (Int×Int)):Prop:=∀i,i<l.length→∃b o,a=some ⟨b,o,none⟩∧w.cell? ⟨b,o+i * 2,none⟩=some (.int .i64 (l.getD i (0,0)).1)∧w.cell? ⟨b,o+i * 2+1,none⟩=some (.int .i64 (l.getD i (0,0)).2)
theorem oQ.later {w':World} {a:Option Addr} {l:List (Int×Int)} (h:oQ w a l) (hb:Below w.heap.size w w'):oQ w' a l:=fun i hi=>by
 obtain ⟨b,o,e,c0,c1⟩:=h i hi;exact ⟨b,o,e,cell_later hb c0,cell_later hb c1⟩
theorem X7 (l:List (Int×Int)):∀u∈ps l,u.oneCell'=true:=by
 intro u hu;unfold Rs.ps at hu;rw [List.mem_flatMap] at hu;obtain ⟨p,_,h⟩:=hu;simp at h;rcases h with rfl | rfl <;> rfl
/- A copy of such a list. -/
theorem NV (l:List (Int×Int)):(ps l).length=l.length * 2:=by
 induction l with
 | nil=>rfl
 | cons p l ih=>
  have e:ps (p::l)=.int .i64 p.1:: .int .i64 p.2::ps l:=rfl;rw [e];simp [ih];omega
theorem CO {b o:Nat} {ws:List (Int×Int)} (h:oQ w (some ⟨b,o,none⟩) ws):∀j u,(ps ws)[j]? =some u→w.cell? ((⟨b,o,none⟩:Addr).add j)=some u:=fun j u hu=>by
 have hj:j<ws.length * 2:=by
  rcases Nat.lt_or_ge j (ps ws).length with h' | h'
  ·rw [NV] at h';exact h'
  ·rw [List.getElem?_eq_none h'] at hu;cases hu
 obtain ⟨b',o',e,c0,c1⟩:=h (j/2) (by omega);obtain ⟨eb,eo⟩:b=b'∧o=o':=by simpa using e
 rw [←eb,←eo] at c0 c1;obtain ⟨p0,p1⟩:=Rs.NW ws (j/2) (by omega);rw [Rs.add_plain];rcases Nat.mod_two_eq_zero_or_one j with hr | hr
 ·have e2:j/2 * 2=j:=by omega
  rw [e2] at p0;rw [show o+j/2 * 2=o+j by omega] at c0;rw [c0,←p0,hu]
 ·have e2:j/2 * 2+1=j:=by omega
  rw [e2] at p1;rw [show o+j/2 * 2+1=o+j by omega] at c1;rw [c1,←p1,hu]
theorem rS {P:Program} (base:Nat) (t ty e:TypeId) (i:TypeInfo) (size:Nat) (ht:P.underlying t=some (.slice e)) (hi:P.info? e=some i) (v:Value) (n:Nat) (xs:List Value) (hown:w.ownsRow base e size v n xs) (c:Nat):
  (Builtin.append_ #[t,t] ty #[v,.slice none 0 c]).run P w=.ok v w:=by
 rcases hown.2 with ⟨rfl,rfl⟩ | ⟨g,cap,cur,rfl,_,_,hnc,_⟩
 ·simp [Builtin.append_,run_underlying ht,sizeOf,typeInfo,hi,Builtin.lenOf,Builtin.firstCells]
 ·simp [Builtin.append_,run_underlying ht,sizeOf,typeInfo,hi,Builtin.lenOf,Builtin.firstCells,hnc,storeCells]
theorem G5 {ops:Array Oper} {rest:List Oper} {o:Oper} {a:Act} {Q:Exit→Act→World→Prop} (hgd:o.guard=none) (s x:Operand)
  (ho:o.op=.call {callee:=.builtin .append,args:=#[s,x],argTypes:=#[51,51]})
  (base:Nat) (v:Value) (n:Nat) (xs:List Value) (hs:a.eval s=v) (hown:w.ownsRow base 113 2 v n xs) (src:Option Addr) (c:Nat) (ws:List (Int×Int)) (hx:a.eval x=.slice src ws.length c) (fV:oQ w src ws)
  (h63:n+ws.length≤maxLen) (hbytes:(n+ws.length) * 16≤140737488355328) (hbase:base≤w.heap.size)
  (h:∀v' w',w'.ownsRow base 113 2 v' (n+ws.length) (xs++ps ws)→w.grownBy w' v.ownBlock→wpList prog ops Q rest (a.put o.dst v') w'):wpList prog ops Q (o::rest) a w:=by
 obtain ⟨i0,hi,hz0,hz1,hz2⟩:=Rs.cR
 cases src with
 | none=>
  have h0:ws=[]:=by
   cases ws with
   | nil=>rfl
   | cons y r=>obtain ⟨b,o,e,_⟩:=fV 0 (by simp);cases e
  subst h0;refine wpList_plain hgd fun K hK=>?_
  have hrun:=rS (P:=prog) (w:=w) base 51 o.type 113 i0 2 underlying51 hi v n xs hown c;rw [List.length_nil] at hx;unfold Oper.wp;simp [execOp,ho,resolve,invoke,builtin,hs,hx,hrun,Result.andThen];exact hK _ _ (h v w (by simpa [Rs.ps] using hown) ⟨rfl,rfl,rfl,Nat.le_refl _,fun _ _ _=>rfl⟩)
 | some ad=>
  refine wpList_append_own _ hgd s x 51 ho base 113 i0 _ 2 16 underlying51 hi hz0 hz1 hz2 rfl (by decide) v n xs hs hown ad ws.length c (ps ws) hx (by rw [NV]) ?_ (X7 _) h63 hbytes hbase fun v' w' h1 h2 _=>h v' w' h1 h2
  by_cases h0:ws=[]
  ·intro j u hu;rw [h0] at hu;simp [Rs.ps] at hu
  ·obtain ⟨b,o',e,-⟩:=fV 0 (List.length_pos_iff.2 h0);cases e
   exact CO fV
theorem T1 (t:Tr) (L J:List Int):(kF t L J).length=J.length:=by unfold kF;rw [Rs.bX]
theorem TD (t:Tr) (L J:List Int):(bO t L J).length≤64:=by
 unfold bO;split
 ·rename_i h;rw [T1];exact (j9 h).fit.CW
 ·simp
end Go.Proofs.YtanaapfobpgibaaGreatDoor
