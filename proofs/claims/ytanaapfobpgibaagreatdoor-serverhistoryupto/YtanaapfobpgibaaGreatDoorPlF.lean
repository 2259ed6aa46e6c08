/- Contracts: the document's Next of trees. -/
import Derived.Test.YtanaapfobpgibaaGreatDoorJPlD
open Go.Proofs.Tryz
namespace Go.Proofs.YtanaapfobpgibaaGreatDoor
open Go.RowKit Go.Maps Go.Great
open Rt (Ky zK bF bq l9 kI R_ VL cu)
open Rs (En zE aU bg cN bM iC ps ft fC b6 evs eA mo pX xD ud)
set_option linter.unusedVariables false
set_option linter.unusedSimpArgs false
variable {W w w':World} {t:Tr} {J L:List Int} {B C K cJ cL nJ nL:Nat} {aJ aL:Option Addr} {f:Nat→Ky}
structure adu (w w':World) (t:Tr) (L J:List Int) (vl vj:Value):Prop where
 left:w'.ownsRow w.heap.size 113 2 vl (fx t L J).length (ps (fx t L J))
 join:w'.ownsRow w.heap.size 113 2 vj (bO t L J).length (ps (bO t L J))
 apart:vl.ownBlock=none∨vl.ownBlock≠vj.ownBlock
def xt (w w':World) (t:Tr) (L J:List Int) (e:Ending):Prop:=∃vl vj,e=.returned (.tuple #[.agg (aC (cZ t L J)),vl,vj,.int .i64 (b_ t L J)])∧adu w w' t L J vl vj
theorem xt.no {E:Int} (h:b_ t L J=E) (h0:E≠0):xt w w' t L J (.returned (.tuple #[.agg (aC (tz 0)),.slice none 0 0,.slice none 0 0,.int .i64 E])):=by
 refine ⟨.slice none 0 0,.slice none 0 0,?_,?_,?_,.inl rfl⟩
 ·unfold cZ;rw [h,if_neg h0]
 ·unfold fx;rw [h,if_neg h0];exact World.ownsRow_nil _ _ _ _
 ·unfold bO;rw [h,if_neg h0];exact World.ownsRow_nil _ _ _ _
theorem xt.yes {vl vj:Value} (h:b_ t L J=0) (h1:w'.ownsRow w.heap.size 113 2 vl (eA t.ro L).length (ps (eA t.ro L))) (h2:w'.ownsRow w.heap.size 113 2 vj (kF t L J).length (ps (kF t L J))) (h4:vl.ownBlock=none∨vl.ownBlock≠vj.ownBlock):
  xt w w' t L J (.returned (.tuple #[.agg (aC (nx t L J)),vl,vj,.int .i64 0])):=by
 refine ⟨vl,vj,?_,?_,?_,h4⟩
 ·unfold cZ;rw [h,if_pos rfl]
 ·unfold fx;rw [if_pos h];exact h1
 ·unfold bO;rw [if_pos h];exact h2
theorem fG {fn:Func} {p t u v:Tmp} (hf:fn.results=#[.cell p 39,.tmp t,.tmp u,.tmp v]) (tmps:Array Value) (W:World) (K:Nat) (n:Tr) (hp:tmps[p]? =some (.pointer (some ⟨K,0,none⟩))) (hk:az W K n):
  (results fn tmps).run prog W=.ok (.tuple #[.agg (aC n),tmps.getD t undef,tmps.getD u undef,tmps.getD v undef]) W:=by
 have h:=run_loadVar_row W K _ 39 _ _ _ hk underlying39 rfl (by rw [aZ];exact jz);simp [results,hf,hp,asAddr,h]
structure NY (w W:World) (B C K:Nat) (t:Tr) (aL aJ:Option Addr) (nL nJ cL cJ:Nat):Prop where
 tb:TB w W B C t aL aJ nL nJ cL cJ
 ze:az W K (tz 0)
 gK:w.heap.size≤K
theorem NY.later {w W W':World} {B C K:Nat} {t:Tr} {aL aJ:Option Addr} {nL nJ cL cJ:Nat} (h:NY w W B C K t aL aJ nL nJ cL cJ) (hb:Below W.heap.size W W'):NY w W' B C K t aL aJ nL nJ cL cJ:=⟨h.tb.later hb,h.ze.later hb,h.gK⟩
theorem NY.new (w:World) (t:Tr) (aL aJ:Option Addr) (nL nJ cL cJ:Nat):NY w (((w.alloc (.cells (aC t) 39)).alloc (.cells #[.slice aL nL cL,.slice aJ nJ cJ] 43)).alloc (.cells (aC (tz 0)) 39)) w.heap.size (w.heap.size+1) (w.heap.size+2) t aL aJ nL nJ cL cJ:=by
 have h1:=TB.new w t aL aJ nL nJ cL cJ;generalize hW:(w.alloc (.cells (aC t) 39)).alloc (.cells #[.slice aL nL cL,.slice aJ nJ cJ] 43)=W at *;have hs:W.heap.size=w.heap.size+2:=by rw [←hW];simp
 have h2:=az.new W (tz 0);have hb2:=cG W (tz 0);rw [hs] at h2;exact ⟨h1.later hb2,h2,by omega⟩
/- With the list of those who go. -/
structure NZ (w W:World) (B C K n0:Nat) (t:Tr) (aL aJ:Option Addr) (nL nJ cL cJ:Nat) (v:Value) (l:List (Int×Int)):Prop where
 ny:NY w W B C K t aL aJ nL nJ cL cJ
 row:W.ownsRow n0 113 2 v l.length (ps l)
 lB:B<n0
 lC:C<n0
 lK:K<n0
 ln:w.heap.size≤n0
 sz:n0≤W.heap.size
theorem NZ.later {w W W':World} {B C K n0:Nat} {t:Tr} {aL aJ:Option Addr} {nL nJ cL cJ:Nat} {v:Value} {l:List (Int×Int)} (h:NZ w W B C K n0 t aL aJ nL nJ cL cJ v l) (hb:Below W.heap.size W W'):NZ w W' B C K n0 t aL aJ nL nJ cL cJ v l:=⟨h.ny.later hb,Rs.ar h.row hb,h.lB,h.lC,h.lK,h.ln,Nat.le_trans h.sz hb.size⟩
theorem NZ.app {W1:World} {n0:Nat} {v v':Value} {l:List (Int×Int)} {o:Obj} {p:Int×Int} (h:NZ w W B C K n0 t aL aJ nL nJ cL cJ v l) (hown:W1.ownsRow n0 113 2 v' (l.length+1) (ps l++[.int .i64 p.1,.int .i64 p.2])) (hg:(W.alloc o).grownBy W1 v.ownBlock):NZ w W1 B C K n0 t aL aJ nL nJ cL cJ v' (l++[p]):=by
 have hs:=h.sz;have blk:∀k,k<n0→W1.heap[k]? =W.heap[k]? :=fun k hk=>Rs.kW h.row hg hk (by omega)
 have hsz:n0≤W1.heap.size:=by have h1:=hg.size;simp at h1;omega
 refine ⟨⟨⟨(blk _ h.lB).trans h.ny.tb.tr,(blk _ h.lC).trans h.ny.tb.bt,Rs.kX h.ny.tb.aK h.row h.ln hg⟩,(blk _ h.lK).trans h.ny.ze,h.ny.gK⟩,?_,h.lB,h.lC,h.lK,h.ln,hsz⟩;rw [Rs.od,List.length_append];exact hown
theorem NY.two (h:NY w W B C K t aL aJ nL nJ cL cJ) {A:Nat} (hA:bq W A f) (hw:w.heap.size≤A) (c:Array Value):NY w (W.setRow A c) B C K t aL aJ nL nJ cL cJ:=
 ⟨⟨(Rt.aq (ay h.tb.tr hA (by decide)) _).trans h.tb.tr,(Rt.aq (ay h.tb.bt hA (by decide)) _).trans h.tb.bt,Rt.ag hw h.tb.aK _⟩,(Rt.aq (ay h.ze hA (by decide)) _).trans h.ze,h.gK⟩
theorem NZ.two {w W:World} {B C K n0:Nat} {t:Tr} {aL aJ:Option Addr} {nL nJ cL cJ:Nat} {v:Value} {l:List (Int×Int)} (h:NZ w W B C K n0 t aL aJ nL nJ cL cJ v l) {A:Nat} {f:Nat→Ky} (hA:bq W A f) (hw:w.heap.size≤A) (c:Array Value):NZ w (W.setRow A c) B C K n0 t aL aJ nL nJ cL cJ v l:=
 ⟨h.ny.two hA hw c,Rs.aP h.row hA (by decide) _,h.lB,h.lC,h.lK,h.ln,by have:=h.sz;simpa [World.setRow] using this⟩
theorem xu {g:Nat→Ky} {c:Array Value} (h:bq w B f) (hc:bF g=c):bq (w.setRow B c) B g:=by
 subst hc;exact Rt.bq.row h g
theorem MW {k:Nat} (f:Int→Int×Int) (h:k<L.length):(L.take (k+1)).map f=(L.take k).map f++[f (L.getD k 0)]:=by
 rw [List.take_add_one,List.getElem?_eq_getElem h,List.map_append,List.getD_eq_getElem?_getD,List.getElem?_eq_getElem h];rfl
set_option maxRecDepth 100000 in
set_option maxHeartbeats 2000000 in
theorem CD (t:Tr) (aL aJ:Option Addr) (cL cJ:Nat) (L J:List Int) (w:World) (lL:L.length<1152921504606846976) (lJ:J.length<1152921504606846976) (hL:bM w aL L) (hJ:bM w aJ J):
  Calls prog 22 #[.agg (aC t),.agg #[.slice aL L.length cL,.slice aJ J.length cJ]] w fun e w'=>xt w w' t L J e∧Below w.heap.size w w':=by
 have hX:=NY.new w t aL aJ L.length J.length cL cJ;have h1:=fy t;obtain ⟨ct,bQ⟩:∃c,aC t=c:=⟨_,rfl⟩;simp only [bQ] at h1;have HT:Hid (aC t=ct):=bQ;clear bQ;go_enter func22,ntmps22;go_upto_region 1 with (fail)
 rw [fu];generalize ((w.alloc (.cells (aC t) 39)).alloc (.cells #[.slice aL L.length cL,.slice aJ J.length cJ] 43)).alloc (.cells (aC (tz 0)) 39)=w1 at *;rw [HT.out];have yq:Hid (w.heap.size+3≤w1.heap.size):=hX.ze.lt;obtain ⟨n0,gZ⟩:∃D,w.heap.size+3=D:=⟨_,rfl⟩;obtain ⟨K,hK⟩:∃D,w.heap.size+2=D:=⟨_,rfl⟩;obtain ⟨C,hC⟩:∃D,w.heap.size+1=D:=⟨_,rfl⟩;obtain ⟨B,hB⟩:∃D,w.heap.size=D:=⟨_,rfl⟩;have HNB:Hid (B<n0∧C<n0∧K<n0∧w.heap.size≤n0):=⟨by omega,by omega,by omega,by omega⟩;rw [gZ] at yq;rw [hK,hC,hB] at hX ⊢;clear hK hC hB gZ;have jT:=hX.tb.tr;go_wp2_with (refine pV jT HT.out _ rfl rfl rfl ?_)
 refine (h1 _).mono ?_;rintro r w2 ⟨rfl,hb2⟩;have kV:=hX.later hb2;have eW:Hid (n0≤w2.heap.size):=Nat.le_trans yq.out hb2.size;clear h1 hX jT hb2 yq
 cases dH:gu t with
 | false=>
  rw [b8 dH];have HE:Hid (b_ t L J=31):=Aj dH;have l8:Hid ((31:Int)≠0):=by unfold Hid;decide
  have hX:=kV;have hZ:=hX.ze;obtain ⟨cz,fW⟩:∃c,aC (tz 0)=c:=⟨_,rfl⟩;have HZ:Hid (aC (tz 0)=cz):=fW;have gy:az (w2.setRow K cz) K (tz 0):=by rw [←fW];exact hZ.row _
  clear fW kV;go_wp2_with (first | (refine Jy HZ.out rfl rfl ?_) | (refine eE hZ HZ.out rfl _ _ rfl rfl rfl ?_))
  refine bodyPost_ret (fG (p:=4) (t:=5) (u:=6) (v:=7) rfl _ _ K (tz 0) rfl gy) rfl ?_;exact ⟨xt.no HE.out l8.out,Rt.ag hX.gK hX.tb.aK _⟩
 | true=>
  rw [p_ dH];have hr:=di dH;have SD:Hid (Right t):=hr;obtain ⟨c0,c1⟩:=kV.tb.tr.cells;by_cases hp:t.ep=200
  ·have HE:Hid (b_ t L J=19):=r_ dH hp;rw [hp] at c0;have l8:Hid ((19:Int)≠0):=by unfold Hid;decide
   have hX:=kV;have hZ:=hX.ze;obtain ⟨cz,fW⟩:∃c,aC (tz 0)=c:=⟨_,rfl⟩;have HZ:Hid (aC (tz 0)=cz):=fW;have gy:az (w2.setRow K cz) K (tz 0):=by rw [←fW];exact hZ.row _
   clear fW kV hp;go_wp2_with (first | (refine Jy HZ.out rfl rfl ?_) | (refine eE hZ HZ.out rfl _ _ rfl rfl rfl ?_))
   refine bodyPost_ret (fG (p:=4) (t:=5) (u:=6) (v:=7) rfl _ _ K (tz 0) rfl gy) rfl ?_;exact ⟨xt.no HE.out l8.out,Rt.ag hX.gK hX.tb.aK _⟩
  ·have hd:(t.ep==200)=false:=by simpa using hp
   have he9:t.ep≤199:=by have:=hr.e1;omega
   have HE9:Hid (t.ep≤199∧0≤t.ep):=⟨he9,hr.e0⟩;have SG:Hid (¬t.ep=200):=hp;have Xj:Hid (gu t=true):=dH;have h2:=Rs.yO t.ro aL aJ cL cJ L J w2 lL lJ (hL.later kV.tb.aK) (hJ.later kV.tb.aK);obtain ⟨cr,tH⟩:∃c,aU t.ro=c:=⟨_,rfl⟩;have HR:Hid (aU t.ro=cr):=tH;rw [tH] at h2;obtain ⟨d0,d1⟩:=kV.tb.bt.cells;have jS:=kV.tb.tr;clear hp hr he9 tH dH;go_wp2_with (refine ND jS HR.out _ rfl rfl rfl ?_)
   refine h2.mono ?_;rintro r w3 ⟨rfl,hb3⟩;have kG:=kV.later hb3;have HS3:Hid (n0≤w3.heap.size):=Nat.le_trans eW.out hb3.size;clear h2 kV jS hb3 c0 c1 d0 d1 eW;obtain ⟨E,hE⟩:∃E,ft t.ro L J=E:=⟨_,rfl⟩;rw [hE];by_cases jU:E=0
   ·subst jU;have Ep:Hid (ft t.ro L J=0):=hE;have HF:Hid (b6 t.ro L J):=Rs.zl hE;have TZ:=HF.out.CV;have aaX:=HF.out.CW;have HZ0:Hid (NZ w w3 B C K n0 t aL aJ L.length J.length cL cJ (.slice none 0 0) []):=⟨kG,World.ownsRow_nil _ _ _ _,HNB.out.1,HNB.out.2.1,HNB.out.2.2.1,HNB.out.2.2.2,HS3.out⟩;obtain ⟨i0,hi,hz0,hz1,hz2⟩:=Rs.cR;obtain ⟨d0,d1⟩:=kG.tb.bt.cells;clear hE kG;go_wp2_with fail
    go_loopw [9,36] (fun v i wx=>∃(k:Nat) (vl:Value),k≤L.length∧i=.int .i64 (k:Int)∧vl=v∧NZ w wx B C K n0 t aL aJ L.length J.length cL cJ vl ((L.take k).map fun x=>(x,fC t.ro x))) (fun _ i _=>L.length - (intOf i).toNat)
    case atStart=>exact ⟨0,_,by omega,rfl,rfl,HZ0.out⟩
    case round=>
     obtain ⟨k,vl,hk,rfl,rfl,ox⟩:=hrel;have HE:Hid (NZ w wr B C K n0 t aL aJ L.length J.length cL cJ vl ((L.take k).map fun x=>(x,fC t.ro x))):=ox;clear ox HZ0 d0 d1;by_cases ki:k<L.length
     ·have i1:(0:Int)≤(k:Int):=by omega
      have i2:(k:Int)<(L.length:Int):=by omega
      obtain ⟨b,o,oy,hcell⟩:=(hL.later HE.out.ny.tb.aK) k ki;have rA:Hid ((L.take (k+1)).map (fun x=>(x,fC t.ro x))=(L.take k).map (fun x=>(x,fC t.ro x))++[(L.getD k 0,fC t.ro (L.getD k 0))]):=MW _ ki;have HLEN:Hid (((L.take k).map fun x=>(x,fC t.ro x)).length=k):=by unfold Hid;simp;omega
      obtain ⟨x,hx⟩:∃x,L.getD k 0=x:=⟨_,rfl⟩;rw [hx] at hcell rA;obtain ⟨l,hl⟩:∃l,(L.take k).map (fun x=>(x,fC t.ro x))=l:=⟨_,rfl⟩;rw [hl] at HE rA HLEN;have tG:=Rs.rY t.ro x;rw [HR.out] at tG;obtain ⟨j,hj⟩:∃j,fC t.ro x=j:=⟨_,rfl⟩;rw [hj] at tG rA;clear hx hl hj;subst oy;obtain ⟨a1,aS,rfl⟩:=Rs.ah HE.out.row;have Y0:=HE.out.ny.tb.tr;go_wp2_with (refine ND Y0 HR.out _ rfl rfl rfl ?_)
      refine (tG _).mono ?_;rintro r w4 ⟨rfl,hb4⟩;have Eu:Hid (NZ w w4 B C K n0 t (some ⟨b,o,none⟩) aJ L.length J.length cL cJ (.slice a1 l.length aS) l):=HE.out.later hb4;have hrow:=Eu.out.row;have acW:=Eu.out.sz;have aba:l.length≤64:=by have:=HLEN.out;omega
      clear tG hb4 HE Y0;go_wp2_with (at_builtin;(refine wpList_append_own _ rfl _ _ 51 rfl n0 113 i0 (.agg #[.int .i64 0,.int .i64 0]) 2 16 underlying51 hi hz0 hz1 hz2 rfl (by decide) (.slice a1 l.length aS) l.length (ps l) rfl (hrow.alloc _) ⟨w4.heap.size,0,none⟩ 1 1 [.int .i64 x,.int .i64 j] rfl rfl (Rs.cell_two_new _ _ _ _) (by simp [Value.oneCell']) (by unfold maxLen;omega) (by omega) (by simp;omega) ?_);intro v' w5 hown' Sq _;have Vw:Hid (NZ w w5 B C K n0 t (some ⟨b,o,none⟩) aJ L.length J.length cL cJ v' (l++[(x,j)])):=Eu.out.app (p:=(x,j)) hown' Sq;clear hown' Sq)
      go_roundw
      case rel=>exact ⟨k+1,_,by omega,by go_num,rfl,by rw [rA.out];exact Vw.out⟩
      case measure=>simp [intOf];omega
     ·obtain rfl:k=L.length:=by omega
      have IY:decide ((L.length:Int)<(L.length:Int))=false:=by simp
      rw [List.take_length,←A5 HF.out] at HE;obtain ⟨ll,pI⟩:∃ll,eA t.ro L=ll:=⟨_,rfl⟩;have Eo:Hid (eA t.ro L=ll):=pI;have EI:Hid (ll.length≤64):=by unfold Hid;rw [←pI,Rs.ew];exact TZ
      have Bz:Hid (uD t L=rp ll):=by unfold Hid uD;rw [pI]
      rw [pI] at HE;obtain ⟨a1,aS,rfl⟩:=Rs.ah HE.out.row;have Dd:∀W:World,W.ownsRow n0 113 2 (.slice a1 ll.length aS) ll.length (ps ll)→_:=fun W hW=>CB a1 aS ll W (by have:=EI.out;omega) (Ab hW)
      have tA:=Rt.KF t.ks (rp ll) (by have:=yC ll;omega) t.fr;have Mf:=EX SD.out HE9.out.1 (yC ll);have L_:Hid (jQ t L=t.fr+((cu (rp ll) 21:Nat):Int)):=by unfold Hid jQ;rw [Bz.out]
      obtain ⟨q,hq⟩:∃q,rp ll=q:=⟨_,rfl⟩;rw [hq] at tA Mf L_ Bz;rw [hq] at Dd;obtain ⟨ck,dH⟩:∃c,bF t.ks=c:=⟨_,rfl⟩;have HK:Hid (bF t.ks=ck):=dH;simp only [dH] at tA;unfold Rt.ey at tA;have HTR:Hid (l9 t.ks q t.fr=if t.fr+((cu q 21:Nat):Int)≤32768 then 0 else 3):=Mf;obtain ⟨cx,hcx⟩:∃c,bF (R_ t.ks q t.fr)=c:=⟨_,rfl⟩;have Hb:Hid (bF (R_ t.ks q t.fr)=cx):=hcx;obtain ⟨F,hF⟩:∃F,VL t.ks q t.fr=F:=⟨_,rfl⟩;have HFF:Hid (VL t.ks q t.fr=F):=hF;obtain ⟨E1,UH⟩:∃F,l9 t.ks q t.fr=F:=⟨_,rfl⟩;have sS:Hid (l9 t.ks q t.fr=E1):=UH;simp only [hcx,hF,UH] at tA;clear pI hq dH Mf hcx hF UH;go_upto_region 14 with (fail)
      go_cut [8,12,13] (fun s8 s12 s13 wx=>∃A,s8=.int .i64 E1∧s12=.pointer (some ⟨A,0,none⟩)∧s13=.int .i64 F∧NY w wx B C K t aL aJ L.length J.length cL cJ∧bq wx A (R_ t.ks q t.fr))
      case first=>
       have dm:NZ w wr.drew B C K n0 t aL aJ L.length J.length cL cJ (.slice a1 ll.length aS) ll:=HE.out.later (aG _);have HW:Hid (w.heap.size≤wr.heap.size):=HE.out.ny.tb.aK.size;clear HE;refine wp_region_held_drew (S:=fun W=>NZ w W B C K n0 t aL aJ L.length J.length cL cJ (.slice a1 ll.length aS) ll) (by kernel_rfl) dm (fun hHeld=>?_);refine aH 0 (.pointer (some ⟨B,2,none⟩)) rfl ?_;go_frame;refine dG 1 (.agg ck) rfl (fun w hSw=>bB (HK.out ▸ hSw.ny.tb.tr.keys) rfl rfl) ?_;go_frame;refine aH 2 (.slice a1 ll.length aS) rfl ?_;go_frame;refine aH 4 (.pointer (some ⟨B,1,none⟩)) rfl ?_;go_frame;refine dG 5 (.int .i64 t.fr) rfl (fun w hSw=>by obtain ⟨c0,c1⟩:=hSw.ny.tb.tr.cells;clear hSw;go_simp) ?_;go_frame;refine wpAnyH_ready (rs:=[3,11]) (by kernel_rfl) (by simp) ?_;refine (AllReadyH.cons rfl (fun K hK=>?_) (AllReadyH.cons rfl (fun K hK=>?_) AllReadyH.nil))
       ·go_simp
        refine (Dd _ hHeld.row).mono ?_;rintro r w5 ⟨rfl,dT⟩;go_wp2_with fail
        have HW5:Hid (w.heap.size≤w5.heap.size):=Nat.le_trans hHeld.ny.tb.aK.size dT.size;refine hK.out _ _ (hHeld.later dT) (fun d_=>?_);clear hHeld dT;clear hK K;try go_frame
        refine wpAnyH_ready (rs:=[6,11]) (by kernel_rfl) (by simp) ?_;refine (AllReadyH.cons rfl (fun K hK=>?_) (AllReadyH.cons rfl (fun K hK=>?_) AllReadyH.nil))
        ·go_simp
         refine (tA _).mono ?_;rintro r w6 ⟨rfl,dS⟩;go_wp2_with fail
         have hA6:w.heap.size≤w6.heap.size:=Nat.le_trans d_.ny.tb.aK.size dS.size;refine hK.out _ _ (d_.later dS) (fun gl=>?_);clear d_ dS;clear hK K;try go_frame
         refine aH 7 (.tuple #[.agg cx,.int .i64 F,.int .i64 E1]) rfl ?_;go_frame;refine aH 8 (.agg cx) rfl ?_;go_frame;refine aH 9 (.int .i64 F) rfl ?_;go_frame;refine aH 10 (.int .i64 E1) rfl ?_;go_frame;refine dh 11 rfl fun K hK=>?_;go_simp
         have wN:bq (w6.alloc (.cells #[Value.int .i64 0,Value.int .i64 0,Value.int .i64 0,Value.int .i64 0,Value.int .i64 0,Value.int .i64 0,Value.int .i64 0,Value.int .i64 0,Value.int .i64 0,Value.int .i64 0,Value.int .i64 0,Value.int .i64 0,Value.int .i64 0,Value.int .i64 0,Value.int .i64 0,Value.int .i64 0,Value.int .i64 0,Value.int .i64 0,Value.int .i64 0,Value.int .i64 0,Value.int .i64 0,Value.int .i64 0,Value.int .i64 0,Value.int .i64 0,Value.int .i64 0,Value.int .i64 0,Value.int .i64 0,Value.int .i64 0,Value.int .i64 0,Value.int .i64 0,Value.int .i64 0,Value.int .i64 0,Value.int .i64 0,Value.int .i64 0,Value.int .i64 0,Value.int .i64 0,Value.int .i64 0,Value.int .i64 0,Value.int .i64 0,Value.int .i64 0,Value.int .i64 0,Value.int .i64 0] 33)) w6.heap.size (fun _=>zK):=by rw [h_];exact Rt.bq.new _ _
         have hA:=hA6;refine hK.out _ _ (gl.later (aa _ _)) (fun iZ=>?_);clear gl;clear hK K;try go_frame
         refine dh 12 rfl fun Kc hK=>?_;have PL:=xu wN Hb.out;refine iu rfl (bR 33 _ _ rfl _ cx rfl rfl 33 (bF fun _=>zK) wN (by rw [←Hb.out,Rt.bH];exact Rt.tu) (by rw [←Hb.out,Rt.bH,Rt.bH]) (by rw [←Hb.out];exact Rt.qx _) rfl ?_);refine hK.out _ _ (iZ.two wN hA cx) (fun qF=>?_);clear iZ;clear hK Kc;try go_frame
         refine aH 13 (.int .i64 F) rfl ?_;go_frame;refine aH 14 (.int .i64 E1) rfl ?_;go_frame;refine wpAnyH_done (by kernel_rfl) ?_ _;go_wp2_with fail
         go_meet
         case rel=>exact ⟨_,rfl,rfl,rfl,qF.ny,PL⟩
        ·go_simp
         have PN:bq (w5.alloc (.cells #[Value.int .i64 0,Value.int .i64 0,Value.int .i64 0,Value.int .i64 0,Value.int .i64 0,Value.int .i64 0,Value.int .i64 0,Value.int .i64 0,Value.int .i64 0,Value.int .i64 0,Value.int .i64 0,Value.int .i64 0,Value.int .i64 0,Value.int .i64 0,Value.int .i64 0,Value.int .i64 0,Value.int .i64 0,Value.int .i64 0,Value.int .i64 0,Value.int .i64 0,Value.int .i64 0,Value.int .i64 0,Value.int .i64 0,Value.int .i64 0,Value.int .i64 0,Value.int .i64 0,Value.int .i64 0,Value.int .i64 0,Value.int .i64 0,Value.int .i64 0,Value.int .i64 0,Value.int .i64 0,Value.int .i64 0,Value.int .i64 0,Value.int .i64 0,Value.int .i64 0,Value.int .i64 0,Value.int .i64 0,Value.int .i64 0,Value.int .i64 0,Value.int .i64 0,Value.int .i64 0] 33)) w5.heap.size (fun _=>zK):=by rw [h_];exact Rt.bq.new _ _
         have hA:=HW5.out;refine hK.out _ _ (d_.later (aa _ _)) (fun gl=>?_);clear d_;clear hK K;try go_frame
         refine dh 6 rfl fun K hK=>?_;go_simp
         refine (tA _).mono ?_;rintro r w6 ⟨rfl,dS⟩;go_wp2_with fail
         have wN:=PN.later dS;refine hK.out _ _ (gl.later dS) (fun iZ=>?_);clear gl dS PN;clear hK K;try go_frame
         refine aH 7 (.tuple #[.agg cx,.int .i64 F,.int .i64 E1]) rfl ?_;go_frame;refine aH 8 (.agg cx) rfl ?_;go_frame;refine aH 9 (.int .i64 F) rfl ?_;go_frame;refine aH 10 (.int .i64 E1) rfl ?_;go_frame;refine dh 12 rfl fun Kc hK=>?_;have PL:=xu wN Hb.out;refine iu rfl (bR 33 _ _ rfl _ cx rfl rfl 33 (bF fun _=>zK) wN (by rw [←Hb.out,Rt.bH];exact Rt.tu) (by rw [←Hb.out,Rt.bH,Rt.bH]) (by rw [←Hb.out];exact Rt.qx _) rfl ?_);refine hK.out _ _ (iZ.two wN hA cx) (fun qF=>?_);clear iZ;clear hK Kc;try go_frame
         refine aH 13 (.int .i64 F) rfl ?_;go_frame;refine aH 14 (.int .i64 E1) rfl ?_;go_frame;refine wpAnyH_done (by kernel_rfl) ?_ _;go_wp2_with fail
         go_meet
         case rel=>exact ⟨_,rfl,rfl,rfl,qF.ny,PL⟩
       ·go_simp
        have Ur:bq (wr.drew.alloc (.cells #[Value.int .i64 0,Value.int .i64 0,Value.int .i64 0,Value.int .i64 0,Value.int .i64 0,Value.int .i64 0,Value.int .i64 0,Value.int .i64 0,Value.int .i64 0,Value.int .i64 0,Value.int .i64 0,Value.int .i64 0,Value.int .i64 0,Value.int .i64 0,Value.int .i64 0,Value.int .i64 0,Value.int .i64 0,Value.int .i64 0,Value.int .i64 0,Value.int .i64 0,Value.int .i64 0,Value.int .i64 0,Value.int .i64 0,Value.int .i64 0,Value.int .i64 0,Value.int .i64 0,Value.int .i64 0,Value.int .i64 0,Value.int .i64 0,Value.int .i64 0,Value.int .i64 0,Value.int .i64 0,Value.int .i64 0,Value.int .i64 0,Value.int .i64 0,Value.int .i64 0,Value.int .i64 0,Value.int .i64 0,Value.int .i64 0,Value.int .i64 0,Value.int .i64 0,Value.int .i64 0] 33)) wr.heap.size (fun _=>zK):=by rw [h_];exact Rt.bq.new wr.drew _
        have hA:=HW.out;refine hK.out _ _ (hHeld.later (aa _ _)) (fun d_=>?_);clear hHeld;clear hK K;try go_frame
        refine dh 3 rfl fun K hK=>?_;go_simp
        refine (Dd _ d_.row).mono ?_;rintro r w5 ⟨rfl,dT⟩;go_wp2_with fail
        have PN:=Ur.later dT;refine hK.out _ _ (d_.later dT) (fun gl=>?_);clear d_ dT Ur;clear hK K;try go_frame
        refine dh 6 rfl fun K hK=>?_;go_simp
        refine (tA _).mono ?_;rintro r w6 ⟨rfl,dS⟩;go_wp2_with fail
        have wN:=PN.later dS;refine hK.out _ _ (gl.later dS) (fun iZ=>?_);clear gl dS PN;clear hK K;try go_frame
        refine aH 7 (.tuple #[.agg cx,.int .i64 F,.int .i64 E1]) rfl ?_;go_frame;refine aH 8 (.agg cx) rfl ?_;go_frame;refine aH 9 (.int .i64 F) rfl ?_;go_frame;refine aH 10 (.int .i64 E1) rfl ?_;go_frame;refine dh 12 rfl fun Kc hK=>?_;have PL:=xu wN Hb.out;refine iu rfl (bR 33 _ _ rfl _ cx rfl rfl 33 (bF fun _=>zK) wN (by rw [←Hb.out,Rt.bH];exact Rt.tu) (by rw [←Hb.out,Rt.bH,Rt.bH]) (by rw [←Hb.out];exact Rt.qx _) rfl ?_);refine hK.out _ _ (iZ.two wN hA cx) (fun qF=>?_);clear iZ;clear hK Kc;try go_frame
        refine aH 13 (.int .i64 F) rfl ?_;go_frame;refine aH 14 (.int .i64 E1) rfl ?_;go_frame;refine wpAnyH_done (by kernel_rfl) ?_ _;go_wp2_with fail
        go_meet
        case rel=>exact ⟨_,rfl,rfl,rfl,qF.ny,PL⟩
      case rest=>
       obtain ⟨A,rfl,rfl,rfl,jD,bU⟩:=hcut;clear HE Dd tA;by_cases Dg:t.fr+((cu q 21:Nat):Int)≤32768
       ·have hte:E1=0:=by rw [←sS.out,HTR.out,if_pos Dg]
        subst hte;have hfn:F=t.fr+((cu q 21:Nat):Int):=by rw [←HFF.out];unfold Rt.VL;rw [if_pos sS.out]
        have L9:Hid (jQ t L=F):=by unfold Hid;rw [L_.out,hfn]
        have HF3:Hid (0≤F∧F≤32768):=⟨by have:=SD.out.f0;omega,by omega⟩;have HKS:Hid (R_ t.ks q t.fr=kI t.ks q t.fr):=by unfold Hid Rt.R_;rw [if_pos sS.out]
        rw [HKS.out] at bU Hb;obtain ⟨P,hP⟩:∃P,t.ep+1=P:=⟨_,rfl⟩;have HP:Hid (t.ep+1=P):=hP;have hw2:IntKind.i64.wrap (t.ep+1)=P:=(Rt.bC _ (by have:=HE9.out;omega) (by have:=HE9.out;omega)).trans hP;have Sn:=Rs.KM t.ro aL aJ cL cJ L J P F wc lL lJ (hL.later jD.tb.aK) (hJ.later jD.tb.aK);rw [HR.out] at Sn;have Ga:=V6 SD.out HE9.out.1 HF.out (by rw [L9.out];exact HF3.out.2);rw [HP.out,L9.out] at Ga;obtain ⟨c0,c1⟩:=jD.tb.tr.cells;obtain ⟨d0,d1⟩:=jD.tb.bt.cells;have hT9:=jD.tb.tr;clear hfn Dg hP;go_wp2_with (refine ND hT9 HR.out _ rfl rfl rfl ?_)
        refine Sn.mono ?_;rintro r w8 ⟨⟨vl,vj,rfl,Gl⟩,AQ⟩;have UD:=jD.later AQ;have Mk:=Rt.bq.later bU AQ;have Ua:bg (w8.alloc (.cells zeroCells37 37)) w8.heap.size (fun _=>zE):=by rw [Rs.dC];exact Rs.bg.new _ _
        obtain ⟨A_,Gc⟩:∃c,aU (pX t.ro L J P F)=c:=⟨_,rfl⟩;have Hc:Hid (aU (pX t.ro L J P F)=A_):=Gc;rw [Gc];have JW:Hid (w8.ownsRow wc.heap.size 113 2 vj (ud t.ro L J P F).length (ps (ud t.ro L J P F))):=Gl.join;have HL8:Hid (w8.ownsRow wc.heap.size 113 2 vl (xD t.ro L J P F).length (ps (xD t.ro L J P F))):=Gl.left;have VD:Hid (vl.ownBlock=none∨vl.ownBlock≠vj.ownBlock):=Gl.apart;have W_:Hid (w.heap.size≤wc.heap.size):=jD.tb.aK.size;obtain ⟨a2,dc,rfl⟩:=Rs.ah JW.out;obtain ⟨a3,jb,rfl⟩:=Rs.ah HL8.out;clear Sn jD bU hT9 AQ Gc c0 c1 d0 d1 Gl;by_cases uf:F+(J.length:Int)≤32768
        ·rw [if_pos uf] at Ga;rw [Ga];have hst:ku t L J:=E3 Xj.out SG.out Ep.out (by rw [L9.out];exact uf);have HST:Hid (ku t L J):=hst;have e2:=hst.r3;have e3:=hst.j3;have e4:=hst.l3;rw [HP.out,L9.out] at e2 e3 e4;have Em:Hid ((kF t L J).length=J.length):=by unfold Hid kF;rw [Rs.bX]
         rw [e3] at JW VD;rw [e4,Eo.out] at HL8 VD;have BC:Hid (aU (nx t L J).ro=A_):=by rw [←e2];exact Hc.out
         rw [e3,e4,Eo.out];obtain ⟨lj,mi⟩:∃lj,kF t L J=lj:=⟨_,rfl⟩;rw [mi] at JW Em VD;rw [mi];have RX:Hid (kF t L J=lj):=mi
         have Vu:Hid (nx t L J=⟨P,F+(lj.length:Int),kI t.ks q t.fr,(nx t L J).ro⟩):=by
          unfold Hid;rw [Em.out,←L9.out,←HP.out,←Bz.out];rfl
         have hfw:IntKind.i64.wrap (F+(lj.length:Int))=F+(lj.length:Int):=Rt.bC _ (by have:=HF3.out;omega) (by have:=HF3.out;have:=Em.out;omega);obtain ⟨cn,f_⟩:∃c,aC (nx t L J)=c:=⟨_,rfl⟩;have zF:Hid (aC (nx t L J)=cn):=f_;have aaf:Hid (aC ⟨P,F+(lj.length:Int),kI t.ks q t.fr,(nx t L J).ro⟩=cn):=by rw [←Vu.out];exact f_
         clear hst e2 e3 e4 mi f_ Ga uf Hc;go_upto_region 18 with (refine M9 Ua BC.out rfl _ _ rfl rfl rfl ?_)
         rw [Rs.dC,World.setRow_alloc_new];have dZ:=aa w8 (.cells A_ 37);have hX:=UD.later dZ;have adh:=Rt.bq.later Mk dZ;have adg:bg (w8.alloc (.cells A_ 37)) w8.heap.size (nx t L J).ro:=by rw [←BC.out];exact Rs.bg.new _ _
         have Xd:Hid ((w8.alloc (.cells A_ 37)).ownsRow wc.heap.size 113 2 (.slice a3 ll.length jb) ll.length (ps ll)):=Rs.ar HL8.out dZ;have adB:Hid ((w8.alloc (.cells A_ 37)).ownsRow wc.heap.size 113 2 (.slice a2 lj.length dc) lj.length (ps lj)):=Rs.ar JW.out dZ;clear Ua UD Mk HL8 JW dZ;generalize w8.alloc (.cells A_ 37)=xS at *;generalize w8.heap.size=BA at *;have hZ:=hX.ze;obtain ⟨c0,c1⟩:=hX.tb.tr.cells;have gy:az (xS.setRow K cn) K (nx t L J):=by rw [←zF.out];exact hZ.row _
         go_wp2_with (first | (refine aaV adh Hb.out rfl _ rfl rfl ?_) | (refine Yt adg BC.out rfl _ rfl rfl ?_) | (refine btc Hb.out BC.out aaf.out rfl _ _ _ _ rfl rfl rfl rfl rfl ?_) | (refine eE hZ zF.out rfl _ _ rfl rfl rfl ?_))
         refine bodyPost_ret (fG (p:=4) (t:=5) (u:=6) (v:=7) rfl _ _ K (nx t L J) rfl gy) rfl ?_;refine ⟨?_,Rt.ag hX.gK hX.tb.aK _⟩;exact xt.yes HST.out.pl (by rw [Eo.out];exact Rs.aP (Rs.aV Xd.out W_.out) hZ (by decide) _) (by rw [RX.out];exact Rs.aP (Rs.aV adB.out W_.out) hZ (by decide) _) VD.out
        ·rw [if_neg uf] at Ga;rw [Ga];have HE:Hid (b_ t L J=3):=qg Xj.out SG.out Ep.out (by rw [L9.out];exact uf);have l8:Hid ((3:Int)≠0):=by unfold Hid;decide
         obtain ⟨nj,ow⟩:∃n,(ud t.ro L J P F).length=n:=⟨_,rfl⟩;obtain ⟨nl,ru⟩:∃n,(xD t.ro L J P F).length=n:=⟨_,rfl⟩;rw [ow,ru];clear uf Ga ow ru;go_upto_region 18 with (refine M9 Ua Hc.out rfl _ _ rfl rfl rfl ?_)
         rw [Rs.dC,World.setRow_alloc_new];have hX:=UD.later (aa w8 (.cells A_ 37));clear Ua UD;generalize w8.alloc (.cells A_ 37)=w9 at *;have hZ:=hX.ze;obtain ⟨cz,fW⟩:∃c,aC (tz 0)=c:=⟨_,rfl⟩;have HZ:Hid (aC (tz 0)=cz):=fW;have gy:az (w9.setRow K cz) K (tz 0):=by rw [←fW];exact hZ.row _
         clear fW;go_wp2_with (first | (refine Jy HZ.out rfl rfl ?_) | (refine eE hZ HZ.out rfl _ _ rfl rfl rfl ?_))
         refine bodyPost_ret (fG (p:=4) (t:=5) (u:=6) (v:=7) rfl _ _ K (tz 0) rfl gy) rfl ?_;exact ⟨xt.no HE.out l8.out,Rt.ag hX.gK hX.tb.aK _⟩
       ·have hte:E1=3:=by rw [←sS.out,HTR.out,if_neg Dg]
        subst hte;have HE:Hid (b_ t L J=3):=qg Xj.out SG.out Ep.out (by rw [L_.out];omega);have l8:Hid ((3:Int)≠0):=by unfold Hid;decide
        have hX:=jD;have hZ:=hX.ze;obtain ⟨cz,fW⟩:∃c,aC (tz 0)=c:=⟨_,rfl⟩;have HZ:Hid (aC (tz 0)=cz):=fW;have gy:az (wc.setRow K cz) K (tz 0):=by rw [←fW];exact hZ.row _
        clear fW jD Dg;go_wp2_with (first | (refine Jy HZ.out rfl rfl ?_) | (refine eE hZ HZ.out rfl _ _ rfl rfl rfl ?_))
        refine bodyPost_ret (fG (p:=4) (t:=5) (u:=6) (v:=7) rfl _ _ K (tz 0) rfl gy) rfl ?_;exact ⟨xt.no HE.out l8.out,Rt.ag hX.gK hX.tb.aK _⟩
   ·have Ww:(E !=0)=true:=by simpa using jU
    have HE:Hid (b_ t L J=E):=by rw [←hE];exact Ai Xj.out SG.out (by rw [hE];exact jU)
    have l8:Hid (E≠0):=jU;have hX:=kG;have hZ:=hX.ze;obtain ⟨cz,fW⟩:∃c,aC (tz 0)=c:=⟨_,rfl⟩;have HZ:Hid (aC (tz 0)=cz):=fW;have gy:az (w3.setRow K cz) K (tz 0):=by rw [←fW];exact hZ.row _
    clear fW kG hE jU;go_wp2_with (first | (refine Jy HZ.out rfl rfl ?_) | (refine eE hZ HZ.out rfl _ _ rfl rfl rfl ?_))
    refine bodyPost_ret (fG (p:=4) (t:=5) (u:=6) (v:=7) rfl _ _ K (tz 0) rfl gy) rfl ?_;exact ⟨xt.no HE.out l8.out,Rt.ag hX.gK hX.tb.aK _⟩
end Go.Proofs.YtanaapfobpgibaaGreatDoor
