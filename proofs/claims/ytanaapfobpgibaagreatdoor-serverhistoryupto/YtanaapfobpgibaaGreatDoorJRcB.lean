/- RcB, RcC, joined. -/
import Derived.Test.YtanaapfobpgibaaGreatDoorJRcMath
import Derived.Test.YtanaapfobpgibaaGreatDoorJJnO
open Go.Proofs.Tryz
set_option maxHeartbeats 4000000
namespace Go.Proofs.YtanaapfobpgibaaGreatDoor.Rc
open Go.RowKit Go.Maps
open Rs (bM cell_later)
open Bt (JR ua ub)
set_option linter.unusedVariables false
set_option linter.unusedSimpArgs false
/- Fields as cells. -/
variable {W W1 w:World} {B BL BR k n0:Nat} {rc:Array Value} {v' vl:Value} {l:List (Nat×Int)} {o:Obj} {a b:Int}
def Zk (x:Nat×Int):List Value:=[.int .u64 (x.1:Int),.int .i64 x.2]
def ko (l:List (Nat×Int)):List Value:=l.flatMap Zk
theorem wU (l:List (Nat×Int)) (x:Nat×Int):ko (l++[x])=ko l++Zk x:=by simp [ko]
theorem qO:∀(l:List (Nat×Int)) (i:Nat),i<l.length→(ko l)[i * 2]? =some (.int .u64 ((l.getD i (0,0)).1:Int))∧(ko l)[i * 2+1]? =some (.int .i64 (l.getD i (0,0)).2)
 | [],i,h=>by cases h
 | x::l,i,hi=>by
  have e:ko (x::l)=.int .u64 (x.1:Int):: .int .i64 x.2::ko l:=rfl;rw [e]
  cases i with
  | zero=>exact ⟨rfl,rfl⟩
  | succ i=>
   have:=qO l i (by simpa using hi);rw [show (i+1) * 2=i * 2+1+1 by omega,show i * 2+1+1+1=(i * 2+1)+1+1 by omega]
   simpa using this
theorem Pg:(prog.info? 110).map (fun i=>(i.zero,i.size,i.bytes))=some (some (.agg #[.int .u64 0,.int .i64 0]),2,16):=by kernel_rfl
theorem ir:∃i,prog.info? 110=some i∧i.zero=some (.agg #[.int .u64 0,.int .i64 0])∧i.size=2∧i.bytes=16:=by
 have h:=Pg
 cases hq:prog.info? 110 with
 | none=>rw [hq] at h;cases h
 | some i=>
  rw [hq] at h;simp at h;exact ⟨i,rfl,h.1,h.2.1,h.2.2⟩
def Eg (W W':World):Prop:=∀(k:Nat) (cs:Array Value) (T:TypeId),W.heap[k]? =some (.cells cs T (0,0))→T≠110→T≠99→W'.heap[k]? =some (.cells cs T (0,0))
/- The record, boxed, and the list that is gathered. -/
structure FL (w W:World) (BR BL n0:Nat) (rc:Array Value) (vl:Value) (l:List (Nat×Int)):Prop where
 rc:bh W BR rc
 li:W.heap[BL]? =some (.cells #[vl] 99 (0,0))
 row:W.ownsRow n0 110 2 vl l.length (ko l)
 aK:Below w.heap.size w W
 bt:BR<n0
 bl:BL<n0
 ne:BR≠BL
 wl:w.heap.size≤BL
 sz:n0≤W.heap.size
theorem FL.later {w W W':World} {BR BL n0:Nat} {rc:Array Value} {vl:Value} {l:List (Nat×Int)} (h:FL w W BR BL n0 rc vl l) (hb:Below W.heap.size W W'):FL w W' BR BL n0 rc vl l:=
 ⟨h.rc.later hb,(hb.block BL (Array.getElem?_eq_some_iff.1 h.li).1).trans h.li,Rs.ar h.row hb,h.aK.trans (hb.mono h.aK.size),h.bt,h.bl,h.ne,h.wl,Nat.le_trans h.sz hb.size⟩
theorem FL.cell (h:FL w W BR BL n0 rc vl l):W.cell? ⟨BL,0,none⟩=some vl:=cell_of_row W BL 0 _ _ _ h.li
theorem FL.app {x:Nat×Int} (h:FL w W BR BL n0 rc vl l) (hown:W1.ownsRow n0 110 2 v' (l.length+1) (ko l++Zk x)) (hg:(W.alloc o).grownBy W1 vl.ownBlock):
  W1.heap[BL]? =some (.cells #[vl] 99 (0,0))∧FL w (W1.setCell ⟨BL,0,none⟩ v') BR BL n0 rc v' (l++[x]):=by
 have hs1:=(Array.getElem?_eq_some_iff.1 h.rc).1;have hs2:=(Array.getElem?_eq_some_iff.1 h.li).1
 have blk:∀k,k<n0→k<W.heap.size→W1.heap[k]? =W.heap[k]? :=fun k hk hk2=>by
  rw [hg.block k (by simp;omega) (Rs.b9 h.row hk)];exact ((Below.refl _ W).alloc (Nat.le_refl _) o).block k (by omega)
 have rv:W1.heap[BL]? =some (.cells #[vl] 99 (0,0)):=(blk _ h.bl hs2).trans h.li;have Sb:=h.wl;have hbl:=h.bl;have hsz:n0≤W1.heap.size:=by have h1:=hg.size;have h2:=h.sz;simp at h1;omega
 refine ⟨rv,⟨?_,?_,?_,?_,h.bt,h.bl,h.ne,h.wl,by simpa using hsz⟩⟩
 ·exact (Rt.au h.ne _ _).trans ((blk _ h.bt hs1).trans h.rc)
 ·exact Rt.aO rv 0 v'
 ·rw [wU,List.length_append];exact Rs.aY hown fun j hj _=>Rt.au (by omega) _ _
 ·refine Below.setCell (p:=⟨BL,0,none⟩) ?_ h.wl _;have b1:=h.aK.alloc h.aK.size o
  exact Below.grown b1 hg (by have:=h.aK.size;simp;omega) fun j hj=>by
   rcases Nat.lt_or_ge j n0 with hlt | BN
   ·exact absurd hj.symm (Rs.b9 h.row hlt)
   ·omega
theorem FL.ZV (h:FL w W BR BL n0 rc vl l) (hg:(W.alloc o).grownBy W1 vl.ownBlock):Eg W (W1.setCell ⟨BL,0,none⟩ v'):=fun k cs T hk h1 h2=>by
 have iw:=(Array.getElem?_eq_some_iff.1 hk).1;have hne:k≠BL:=ay hk h.li h2;rw [Rt.au hne,hg.block k (by simp;omega) (kP h.row hk h1)];exact (((Below.refl _ W).alloc (Nat.le_refl _) o).block k (by omega)).trans hk
def FP (w W W':World) (BR BL n0:Nat) (rc:Array Value) (l:List (Nat×Int)):Prop:=∃vl',FL w W' BR BL n0 rc vl' l∧Eg W W'
theorem FP.of {W':World} {v:Value} (h:FL w W' BR BL n0 rc v l) (k:Eg W W'):FP w W W' BR BL n0 rc l:=⟨v,h,k⟩
def FX (w W:World) (BR BL n0:Nat) (rc:Array Value) (l:List (Nat×Int)):Prop:=∃vl,FL w W BR BL n0 rc vl l
theorem wrap_u64 (v:Nat) (h:v<18446744073709551616):IntKind.u64.wrap (v:Int)=(v:Int):=by rw [IntKind.wrap_u64];omega
set_option maxRecDepth 100000 in
theorem ig (v:Nat) (q:Int) (hv:v<18446744073709551616) (hG:FL w W BR BL n0 rc vl l) (hlen:l.length≤4096):
  Calls prog 161 #[.int .i64 (v:Int),.int .i64 q,.pointer (some ⟨BL,0,none⟩)] W fun e W'=>e=.returned (.tuple #[])∧FP w W W' BR BL n0 rc (l++[(v,q)]):=by
 obtain ⟨i0,hi,hz0,hz1,hz2⟩:=ir;have hwr:=wrap_u64 v hv;have PW:=hG.cell;have hrow:=hG.row;obtain ⟨a1,aS,rfl⟩:=Rs.ah hrow;have HG:Hid (FL w W BR BL n0 rc (.slice a1 l.length aS) l):=hG;have gZ:n0≤W.heap.size:=HG.out.sz;clear hG;go_enter func161,ntmps161;go_wp2_with (at_builtin;(refine wpList_append_own _ rfl _ _ 99 rfl n0 110 i0 (.agg #[.int .u64 0,.int .i64 0]) 2 16 underlying99 hi hz0 hz1 hz2 rfl (by decide) (.slice a1 l.length aS) l.length (ko l) rfl (hrow.alloc _) ⟨W.heap.size,0,none⟩ 1 1 [.int .u64 (v:Int),.int .i64 q] rfl rfl (bD _ _ _) (by simp [Value.oneCell']) (by unfold maxLen;omega) (by omega) (by simp;omega) ?_);intro v' w3 hown' hg3 _;obtain ⟨a2,dc,hv2⟩:=Rs.ah hown';subst hv2;have rb:Hid (w3.heap[BL]? =some (.cells #[.slice a1 l.length aS] 99 (0,0))∧FL w (w3.setCell ⟨BL,0,none⟩ (.slice a2 (l.length+1) dc)) BR BL n0 rc (.slice a2 (l.length+1) dc) (l++[(v,q)])):=HG.out.app (x:=(v,q)) hown' hg3;have BU:Hid (Eg W (w3.setCell ⟨BL,0,none⟩ (.slice a2 (l.length+1) dc))):=HG.out.ZV (v':=.slice a2 (l.length+1) dc) hg3;clear hown' hg3;have hcB:w3.cell? ⟨BL,0,none⟩=some (.slice a1 l.length aS):=cell_of_row w3 BL 0 _ _ _ rb.out.1;have hfB:w3.frozen? ⟨BL,0,none⟩=false:=Rt.ax rb.out.1 0)
 go_end0
 exact ⟨rfl,FP.of rb.out.2 BU.out⟩
/- A seat in a block. -/
def pR (w:World) (B:Nat) (a b:Int):Prop:=w.heap[B]? =some (.cells #[.int .i64 a,.int .i64 b] 113 (0,0))
theorem pR.cells (h:pR w B a b):w.cell? ⟨B,0,none⟩=some (.int .i64 a)∧w.cell? ⟨B,1,none⟩=some (.int .i64 b):=⟨cell_of_row w B 0 _ _ _ h,cell_of_row w B 1 _ _ _ h⟩
theorem pR.kept {w':World} (h:pR w B a b) (k:Eg w w'):pR w' B a b:=k _ _ _ h (by decide) (by decide)
theorem Jj {L:List Int} (h:k<L.length):fL (L.take (k+1))=fL (L.take k)++[((L.getD k 0).toNat,8)]:=by rw [lA 0 h,UO]
theorem Jk {J:List (Int×Int)} (h:k<J.length):fJ (J.take (k+1))=fJ (J.take k)++[((J.getD k (0,0)).1.toNat,8)]++[((J.getD k (0,0)).2.toNat,6)]:=by rw [lA (0,0) h,UQ];simp
theorem Ad {a:Option Addr} {cap:Nat} (h:W.ownsRow n0 110 2 (.slice a l.length cap) l.length (ko l)) (hl:∀x∈l,x.1<18446744073709551616):JR W a l:=by
 rcases h.2 with ⟨e,h0⟩ | ⟨g,cap',cur,e,h3,h4,h5,h6,h7,h8⟩
 ·intro i hi;omega
 ·cases e
  intro i hi;obtain ⟨p0,p1⟩:=qO l i hi
  have cell:∀j v,j<l.length * 2→(ko l)[j]? =some v→W.cell? ⟨g,j,none⟩=some v:=fun j v hj hv=>by
   rw [cell_of_row W g j _ _ _ h4,←hv,←h8,List.getElem?_take_of_lt hj];simp
  refine ⟨g,0,rfl,?_,?_,hl _ (eJ (0,0) hi)⟩
  ·rw [Nat.zero_add];exact cell _ _ (by omega) p0
  ·rw [Nat.zero_add];exact cell _ _ (by omega) p1
set_option maxRecDepth 100000 in
theorem Gy (e f:Int) (aL aJ:Option Addr) (cL cJ:Nat) (L:List Int) (J:List (Int×Int)) (w:World) (rL:bM w aL L) (rJ:oQ w aJ J) (hr:fw e f L J=true):
  Calls prog 111 #[.agg #[.int .i64 e,.int .i64 f,.slice aL L.length cL,.slice aJ J.length cJ]] w fun r w'=>∃a cap,r=.returned (.slice a (dM e f L J).length cap)∧JR w' a (dM e f L J)∧Below w.heap.size w w':=by
 have HR:=ie.1 hr;clear hr;obtain ⟨ev,rfl⟩:∃ev:Nat,e=(ev:Int):=⟨e.toNat,by have:=HR.e1;omega⟩;obtain ⟨fv,rfl⟩:∃fv:Nat,f=(fv:Int):=⟨f.toNat,by have:=HR.f1;omega⟩;have ox:ev≤200:=by have:=HR.e2;omega
 have hfv:fv≤32768:=by have:=HR.f2;omega
 have wK:=HR.l1;have wL:=HR.j1;obtain ⟨nL,ru⟩:∃n,L.length=n:=⟨_,rfl⟩;obtain ⟨nJ,ow⟩:∃n,J.length=n:=⟨_,rfl⟩;have pZ:Hid (L.length=nL):=ru;have lu:Hid (J.length=nJ):=ow;have HF:Hid (dM (ev:Int) (fv:Int) L J=[(ev,8),(fv,16),(nL,7)]++fL L++[(nJ,7)]++fJ J):=by unfold Hid dM;rw [ru,ow];simp
 have zC:Hid (W6 (ev:Int) (fv:Int) L J):=HR;clear HR;rw [ru] at wK ⊢;rw [ow] at wL ⊢;clear ru ow;have hwL:IntKind.i64.wrap ((nL:Nat):Int)=(nL:Int):=Bt.bu _ (by omega) (by omega);obtain ⟨rec,jR⟩:∃r,r=(#[.int .i64 (ev:Int),.int .i64 (fv:Int),.slice aL nL cL,.slice aJ nJ cJ]:Array Value):=⟨_,rfl⟩;have h1:=bh.new w #[.int .i64 (ev:Int),.int .i64 (fv:Int),.slice aL nL cL,.slice aJ nJ cJ];have hb1:=aa w (.cells #[.int .i64 (ev:Int),.int .i64 (fv:Int),.slice aL nL cL,.slice aJ nJ cJ] 70);have h2:=heap_alloc_last (w.alloc (.cells #[.int .i64 (ev:Int),.int .i64 (fv:Int),.slice aL nL cL,.slice aJ nJ cJ] 70)) (.cells #[.slice none 0 0] 99);have hb2:=aa (w.alloc (.cells #[.int .i64 (ev:Int),.int .i64 (fv:Int),.slice aL nL cL,.slice aJ nJ cJ] 70)) (.cells #[.slice none 0 0] 99);rw [World.size_alloc] at h2
 have Ds:FL w ((w.alloc (.cells #[.int .i64 (ev:Int),.int .i64 (fv:Int),.slice aL nL cL,.slice aJ nJ cJ] 70)).alloc (.cells #[.slice none 0 0] 99)) w.heap.size (w.heap.size+1) (w.heap.size+2) #[.int .i64 (ev:Int),.int .i64 (fv:Int),.slice aL nL cL,.slice aJ nJ cJ] (.slice none 0 0) []:=
  ⟨h1.later hb2,h2,World.ownsRow_nil _ _ _ _,hb1.trans (hb2.mono hb1.size),by omega,by omega,by omega,by omega,by simp⟩
 clear h1 hb1 h2 hb2;go_enter func111,ntmps111;go_upto_region 3 with (fail)
 generalize (w.alloc (.cells #[.int .i64 (ev:Int),.int .i64 (fv:Int),.slice aL nL cL,.slice aJ nJ cJ] 70)).alloc (.cells #[.slice none 0 0] 99)=w1 at *;obtain ⟨BR,hBR⟩:∃B,w.heap.size=B:=⟨_,rfl⟩;obtain ⟨BL,Y_⟩:∃B,w.heap.size+1=B:=⟨_,rfl⟩;obtain ⟨n0,gZ⟩:∃B,w.heap.size+2=B:=⟨_,rfl⟩;rw [gZ,Y_,hBR] at Ds;rw [Y_,hBR];clear gZ Y_ hBR;rw [←jR] at Ds;have Vr:Hid (rec=(#[.int .i64 (ev:Int),.int .i64 (fv:Int),.slice aL nL cL,.slice aJ nJ cJ]:Array Value)):=jR;clear jR;have ha1:=ig ev 8 (by omega) Ds (by simp);obtain ⟨r0,r1,r2,r3⟩:=bh.cells (Vr.out ▸ Ds.rc);go_wp2_with fail
 refine ha1.mono ?_;rintro r w2 ⟨rfl,vl2,hG2,_⟩;clear ha1 Ds r0 r1 r2 r3;have ha2:=ig fv 16 (by omega) hG2 (by simp);obtain ⟨r0,r1,r2,r3⟩:=bh.cells (Vr.out ▸ hG2.rc);go_wp2_with fail
 refine ha2.mono ?_;rintro r w3 ⟨rfl,vl3,hG3,_⟩;clear ha2 hG2 r0 r1 r2 r3;have ha3:=ig nL 7 (by omega) hG3 (by simp);obtain ⟨r0,r1,r2,r3⟩:=bh.cells (Vr.out ▸ hG3.rc);go_wp2_with fail
 refine ha3.mono ?_;rintro r w4 ⟨rfl,vl4,hG4,_⟩;have uu:Hid (FX w w4 BR BL n0 rec ([(ev,8),(fv,16),(nL,7)]++fL (L.take 0))):=⟨vl4,by simpa [fL] using hG4⟩;obtain ⟨r0',r1',r2',r3'⟩:=bh.cells (Vr.out ▸ hG4.rc);clear ha3 hG3 hG4 r0 r1 r2 r3;go_wp2_with fail
 go_loopw [26] (fun i wx=>∃k:Nat,k≤nL∧i=.int .i64 (k:Int)∧FX w wx BR BL n0 rec ([(ev,8),(fv,16),(nL,7)]++fL (L.take k))) (fun i _=>nL - (intOf i).toNat)
 case atStart=>exact ⟨0,by omega,rfl,uu.out⟩
 case round=>
  obtain ⟨k,hk,rfl,zk⟩:=hrel;have oG:Hid (FX w wr BR BL n0 rec ([(ev,8),(fv,16),(nL,7)]++fL (L.take k))):=zk;clear zk uu r0' r1' r2' r3';by_cases cE:k<nL
  ·have Us:k<L.length:=by rw [pZ.out];exact cE
   obtain ⟨vl,hG⟩:=oG.out;obtain ⟨b,o,rfl,c0⟩:=rL k Us;have c0:=cell_later hG.aK c0;have i1:(0:Int)≤(k:Int):=by omega
   have i2:(k:Int)<(nL:Int):=by omega
   have HS:Hid (fL (L.take (k+1))=fL (L.take k)++[((L.getD k 0).toNat,8)]):=Jj Us;have hwx:=jX.1 (zC.out.lw _ (eJ 0 Us));obtain ⟨x,hx⟩:∃x:Nat,L.getD k 0=(x:Int):=⟨(L.getD k 0).toNat,by omega⟩;rw [hx] at c0 hwx HS;rw [Int.toNat_natCast] at HS;have Pn:x<256:=by omega
   have ha:=ig x 8 (by omega) hG (by simp;omega);clear hx hwx hG oG Us rL rJ;go_wp2_with fail
   refine ha.mono ?_;rintro r w6 ⟨rfl,vl6,Gm,_⟩;have Vv:Hid (FX w w6 BR BL n0 rec ([(ev,8),(fv,16),(nL,7)]++fL (L.take (k+1)))):=⟨vl6,by rw [HS.out,←List.append_assoc];exact Gm⟩;clear Gm ha;go_wp2_with fail
   go_roundw
   case rel=>exact ⟨k+1,by omega,by go_num,Vv.out⟩
   case measure=>simp [intOf];omega
  ·have iX:decide ((k:Int)<(nL:Int))=false:=by simp;omega
   have e:L.take k=L:=List.take_of_length_le (by rw [pZ.out];omega);rw [e] at oG;obtain ⟨vl,hG⟩:=oG.out;have ha:=ig nJ 7 (by omega) hG (by simp;have:=pZ.out;omega);obtain ⟨r0,r1,r2,r3⟩:=bh.cells (Vr.out ▸ hG.rc);clear e hG oG rL;go_wp2_with fail
   refine ha.mono ?_;rintro r w7 ⟨rfl,vl7,hG7,_⟩;have EJ:Hid (FX w w7 BR BL n0 rec ([(ev,8),(fv,16),(nL,7)]++fL L++[(nJ,7)]++fJ (J.take 0))):=⟨vl7,by simpa [fJ] using hG7⟩;clear r0 r1 r2 r3 ha;obtain ⟨r0,r1,r2,r3⟩:=bh.cells (Vr.out ▸ hG7.rc);clear hG7 cE;go_wp2_with fail
   go_loopw [42] (fun i wx=>∃k:Nat,k≤nJ∧i=.int .i64 (k:Int)∧FX w wx BR BL n0 rec ([(ev,8),(fv,16),(nL,7)]++fL L++[(nJ,7)]++fJ (J.take k))) (fun i _=>nJ - (intOf i).toNat)
   case atStart=>exact ⟨0,by omega,rfl,EJ.out⟩
   case round=>
    obtain ⟨k,hk,rfl,zk⟩:=hrel;have oG:Hid (FX w wr BR BL n0 rec ([(ev,8),(fv,16),(nL,7)]++fL L++[(nJ,7)]++fJ (J.take k))):=zk;clear zk EJ r0 r1 r2 r3;by_cases cE:k<nJ
    ·have Wt:k<J.length:=by rw [lu.out];exact cE
     obtain ⟨vl,hG⟩:=oG.out;obtain ⟨b,o,rfl,c0,c1⟩:=rJ k Wt;have c0:=cell_later hG.aK c0;have c1:=cell_later hG.aK c1;have i1:(0:Int)≤(k:Int):=by omega
     have i2:(k:Int)<(nJ:Int):=by omega
     have HS:Hid (fJ (J.take (k+1))=fJ (J.take k)++[((J.getD k (0,0)).1.toNat,8)]++[((J.getD k (0,0)).2.toNat,6)]):=Jk Wt;have Sd:=j7.1 (zC.out.js _ (eJ (0,0) Wt));obtain ⟨x,hx⟩:∃x:Nat,(J.getD k (0,0)).1=(x:Int):=⟨(J.getD k (0,0)).1.toNat,by omega⟩;obtain ⟨y,hy⟩:∃y:Nat,(J.getD k (0,0)).2=(y:Int):=⟨(J.getD k (0,0)).2.toNat,by omega⟩;rw [hx] at c0 Sd HS;rw [hy] at c1 Sd HS;rw [Int.toNat_natCast,Int.toNat_natCast] at HS;have Pn:x<256:=by omega
     have acQ:y<64:=by omega
     have hl1:([(ev,8),(fv,16),(nL,7)]++fL L++[(nJ,7)]++fJ (J.take k):List (Nat×Int)).length≤4000:=by simp;have:=pZ.out;omega
     have HL1:Hid (([(ev,8),(fv,16),(nL,7)]++fL L++[(nJ,7)]++fJ (J.take k):List (Nat×Int)).length≤4000):=hl1;have Dn:pR (wr.alloc (.cells #[.int .i64 (x:Int),.int .i64 (y:Int)] 113)) wr.heap.size (x:Int) (y:Int):=heap_alloc_last wr _;have Qa:=hG.later (aa wr (.cells #[.int .i64 (x:Int),.int .i64 (y:Int)] 113));have ha:=ig x 8 (by omega) Qa (by omega);obtain ⟨s0,s1⟩:=Dn.cells;clear hx hy Sd hG oG Wt rJ hl1;go_upto_region 15 with (fail)
     generalize wr.alloc (.cells #[.int .i64 (x:Int),.int .i64 (y:Int)] 113)=wa at *;generalize wr.heap.size=A at *;go_wp2_with fail
     refine ha.mono ?_;rintro r w6 ⟨rfl,vl6,Gm,hK6⟩;have abv:=Dn.kept hK6;clear ha Qa Dn s0 s1 hK6 c0 c1;have ha:=ig y 6 (by omega) Gm (by have:=HL1.out;simp at this ⊢;omega);obtain ⟨s0,s1⟩:=abv.cells;clear abv;go_wp2_with fail
     refine ha.mono ?_;rintro r w8 ⟨rfl,SV,Sw,_⟩;have HG8:Hid (FX w w8 BR BL n0 rec ([(ev,8),(fv,16),(nL,7)]++fL L++[(nJ,7)]++fJ (J.take (k+1)))):=⟨SV,by rw [HS.out,←List.append_assoc,←List.append_assoc];exact Sw⟩;clear Sw Gm ha s0 s1;go_wp2_with fail
     go_roundw
     case rel=>exact ⟨k+1,by omega,by go_num,HG8.out⟩
     case measure=>simp [intOf];omega
    ·have iX:decide ((k:Int)<(nJ:Int))=false:=by simp;omega
     have e:J.take k=J:=List.take_of_length_le (by rw [lu.out];omega);rw [e] at oG;rw [←HF.out] at oG;obtain ⟨vl,hG⟩:=oG.out;obtain ⟨a1,aS,rfl⟩:=Rs.ah hG.row;have PW:=hG.cell;have HG:Hid (FL w wr BR BL n0 rec (.slice a1 (dM (ev:Int) (fv:Int) L J).length aS) (dM (ev:Int) (fv:Int) L J)):=hG
     have Ek:Hid (JR wr a1 (dM (ev:Int) (fv:Int) L J)):=Ad hG.row (fun x hx=>by
      have:=Bt.jk (zC.out.fit.ok x hx);have h2:2^x.2.toNat≤2^64:=Nat.pow_le_pow_right (by decide) (by omega)
      omega)
     obtain ⟨FN,hFN⟩:∃n,(dM (ev:Int) (fv:Int) L J).length=n:=⟨_,rfl⟩;rw [hFN] at PW;have HFN:Hid ((dM (ev:Int) (fv:Int) L J).length=FN):=hFN;clear e oG hG hFN;go_wp2_with fail
     go_ret;exact ⟨a1,aS,by rw [HFN.out];rfl,Ek.out,HG.out.aK⟩
set_option maxRecDepth 100000 in
theorem rE (e f:Int) (aL aJ:Option Addr) (cL cJ:Nat) (L:List Int) (J:List (Int×Int)) (w:World) (rL:bM w aL L) (rJ:oQ w aJ J):
  Calls prog 73 #[.agg #[.int .i64 e,.int .i64 f,.slice aL L.length cL,.slice aJ J.length cJ]] w fun r w'=>r=.returned (.tuple #[.string (t_ e f L J),.int .i64 (Ma e f L J)])∧Below w.heap.size w w':=by
 have h1:=bh.new w #[.int .i64 e,.int .i64 f,.slice aL L.length cL,.slice aJ J.length cJ];have hb1:=aa w (.cells #[.int .i64 e,.int .i64 f,.slice aL L.length cL,.slice aJ J.length cJ] 70);have xG:=eG e f aL aJ cL cJ L J _ (rL.later hb1) (rJ.later hb1)
 cases hr:fw e f L J with
 | false=>
  rw [hr] at xG;have HE:Hid (t_ e f L J=⟨#[]⟩∧Ma e f L J=12):=by unfold Hid t_ Ma;rw [hr];exact ⟨rfl,rfl⟩
  clear hr rL rJ h1;generalize L.length=nL at *;generalize J.length=nJ at *;go_enter func73,ntmps73;go_wp2_with fail
  refine xG.mono ?_;rintro r w2 ⟨rfl,hb2⟩;have HB:Hid (Below w.heap.size w w2):=hb1.trans (hb2.mono hb1.size);clear hb1 hb2 xG;go_wp2_with fail
  go_ret2
  exact ⟨by rw [HE.out.1,HE.out.2];rfl,HB.out⟩
 | true=>
  rw [hr] at xG
  have HE:Hid (ua (dM e f L J)=t_ e f L J∧ub (dM e f L J)=0∧Ma e f L J=0):=by
   have:=VE hr;exact ⟨this.1,this.2,by unfold Ma;rw [hr];rfl⟩
  have hfl:=Gy e f aL aJ cL cJ L J
  have iO:Hid ((dM e f L J).length≤16777216):=by
   have hR:=ie.1 hr;have h1:=hR.l1;have h2:=hR.j1;unfold Hid;rw [tJ];omega
  have HHR:Hid (fw e f L J=true):=hr;have uZ:Hid (bM w aL L∧oQ w aJ J):=⟨rL,rJ⟩;clear hr rL rJ;obtain ⟨nL,wK⟩:∃n,L.length=n:=⟨_,rfl⟩;obtain ⟨nJ,wL⟩:∃n,J.length=n:=⟨_,rfl⟩;simp only [wK,wL] at h1 hb1 xG hfl;rw [wK,wL];clear wK wL;go_enter func73,ntmps73;go_upto_region 1 with (fail)
  generalize w.alloc (.cells #[.int .i64 e,.int .i64 f,.slice aL nL cL,.slice aJ nJ cJ] 70)=w1 at *;obtain ⟨B,hB⟩:∃B,w.heap.size=B:=⟨_,rfl⟩;rw [hB] at h1 ⊢;clear hB;obtain ⟨r0,r1,r2,r3⟩:=h1.cells;go_wp2_with fail
  refine xG.mono ?_;rintro r w2 ⟨rfl,hb2⟩;have bm:Hid (Below w.heap.size w w2):=hb1.trans (hb2.mono hb1.size);have hf2:=hfl w2 (uZ.out.1.later bm.out) (uZ.out.2.later bm.out) HHR.out;clear r0 r1 r2 r3;obtain ⟨r0,r1,r2,r3⟩:=(h1.later hb2).cells;clear hb1 hb2 xG h1 hfl;go_wp2_with fail
  refine hf2.mono ?_;rintro r w3 ⟨a,cap,rfl,fV,hb3⟩;have BJ:=Bt.CK a cap _ (dM e f L J) rfl w3 iO.out fV;rw [HE.out.1,HE.out.2.1] at BJ;have dR:Hid (Below w.heap.size w w3):=bm.out.trans (hb3.mono bm.out.size);clear r0 r1 r2 r3 hb3 hf2 fV;generalize (dM e f L J).length=FN at *;go_wp2_with fail
  refine BJ.mono ?_;rintro r w4 ⟨rfl,hb4⟩;clear BJ;go_wp2_with fail
  go_ret2
  exact ⟨by rw [HE.out.2.2];rfl,dR.out.trans (hb4.mono dR.out.size)⟩
open Rs (bM cell_later cq tv kQ ar ah ps iW)
open Bt (Rr tb bA bT a8 dn)
variable {W w w':World} {K b b' g n sz:Nat} {sh:Bool} {s:ByteArray} {p:Nat×Bool} {e:TypeId} {v:Value} {xs:List Value} {T:List Bool}
def nQ (w:World) (K g:Nat) (sh:Bool):Prop:=w.heap[K]? =some (.cells #[.pointer (some ⟨g,0,none⟩),.bool sh] 247 (0,0))
theorem nQ.cells (h:nQ w K g sh):w.cell? ⟨K,0,none⟩=some (.pointer (some ⟨g,0,none⟩))∧w.cell? ⟨K,1,none⟩=some (.bool sh):=⟨cell_of_row w K 0 _ _ _ h,cell_of_row w K 1 _ _ _ h⟩
theorem nQ.kept (h:nQ w K g sh) {F:Nat→Prop} (hk:Bt.Kept F w w') (hF:¬F K):nQ w' K g sh:=(hk.block K (Array.getElem?_eq_some_iff.1 h).1 hF).trans h
theorem aaz {c:Nat} (h:nQ w K g sh) (hr:Rr w g c s):K≠g:=ay h hr.blk (by decide)
set_option maxRecDepth 100000 in
theorem ek (q:Nat) (hr:Rr w g p.1 s) (ht:nQ w K g p.2) (hs:s.size<1125899906842624) (h1:1≤q) (h2:q≤62):
  Calls prog 132 #[.pointer (some ⟨K,0,none⟩),.int .i64 (q:Int)] w fun e w'=>e=.returned (.int .i64 ((dW (tb (bA s)) p q).1:Int))∧Rr w' g (dW (tb (bA s)) p q).2.1 s∧nQ w' K g (dW (tb (bA s)) p q).2.2∧Bt.Kept (fun k=>k=g∨k=K) w w':=by
 obtain ⟨c,sh⟩:=p;dsimp only at hr ht;have hne:=aaz ht hr;have Gj:(tb (bA s)).length=8 * s.size:=by rw [bT,a8]
 obtain ⟨k0,k1⟩:=ht.cells;by_cases hc:c+q≤(tb (bA s)).length
 ·have HN:Hid (dW (tb (bA s)) (c,sh) q=(Bt.bv (((tb (bA s)).drop c).take q),(c+q,sh))):=by unfold Hid dW;rw [if_pos hc]
  have hty:=Bt.Cg g c q s w hr hs h1 (by omega) (by rw [←Gj];exact hc);have hlt:=kA (tb (bA s)) (c,sh) q;rw [HN.out] at hlt;dsimp only at hlt;obtain ⟨v,hv⟩:∃v,Bt.bv (((tb (bA s)).drop c).take q)=v:=⟨_,rfl⟩;rw [hv] at hlt HN hty;have adN:v<4611686018427387904:=Nat.lt_of_lt_of_le hlt (by have:=Nat.pow_le_pow_right (n:=2) (by decide) h2;simpa using this);have hwv:IntKind.i64.wrap (v:Int)=(v:Int):=Bt.bu _ (by omega) (by omega);have HT:Hid (nQ w K g sh):=ht;have l8:Hid (K≠g):=hne;clear hc hlt hv Gj hr ht hne hs;go_enter func132,ntmps132;go_wp2_with fail
  refine hty.mono ?_;rintro e w2 ⟨rfl,hr2,hk2⟩;have El:Hid (Rr w2 g (c+q) s):=hr2;have ur:Hid (Bt.Kept (fun k=>k=g) w w2):=hk2;clear hr2 hk2 hty;go_wp2_with fail
  go_ret;refine ⟨by rw [HN.out];rfl,by rw [HN.out];exact El.out,by rw [HN.out];exact HT.out.kept ur.out l8.out,ur.out.mono fun i _ h=>.inl h⟩
 ·have HN:Hid (dW (tb (bA s)) (c,sh) q=(0,(c,true))):=by unfold Hid dW;rw [if_neg hc]
  have tA:=Bt.Ht g c s (q:Int) w hr hs (by rintro ⟨_,h⟩;omega);have HT:Hid (nQ w K g sh):=ht;have l8:Hid (K≠g):=hne;have HR:Hid (Rr w g c s):=hr;clear hc Gj hr ht hne hs;go_enter func132,ntmps132;go_wp2_with fail
  refine tA.mono ?_;rintro e w2 ⟨rfl,hw2⟩
  have ur:Hid (Bt.Kept (fun k=>k=g∨k=K) w w2):=by
   rcases hw2 with rfl | rfl
   ·exact Bt.Kept.refl _ _
   ·exact (Bt.Kept.refl _ _).drew
  have El:Hid (Rr w2 g c s):=by
   rcases hw2 with rfl | rfl
   ·exact HR.out
   ·exact HR.out.drew
  have HT2:Hid (nQ w2 K g sh):=by
   rcases hw2 with rfl | rfl
   ·exact HT.out
   ·exact HT.out
  obtain ⟨j0,j1⟩:=HT2.out.cells;have jf:w2.frozen? ⟨K,1,none⟩=false:=Rt.ax HT2.out 1;clear hw2 tA k0 k1;go_wp2_with fail
  go_ret;refine ⟨by rw [HN.out];rfl,?_,?_,ur.out.setCell (p:=⟨K,1,none⟩) (fun _=>.inr rfl) _⟩
  ·rw [HN.out];exact ⟨(Rt.au (Ne.symm l8.out) _ _).trans El.out.blk,El.out.le⟩
  ·rw [HN.out];exact Rt.aO HT2.out 1 (.bool true)
set_option maxRecDepth 100000 in
theorem nV (hr:Rr w g p.1 s) (ht:nQ w K g p.2) (hs:s.size<1125899906842624):
  Calls prog 133 #[.pointer (some ⟨K,0,none⟩)] w fun e w'=>e=.returned (.bool (!p.2&&dn (tb (bA s)) p.1))∧Below w.heap.size w w':=by
 obtain ⟨c,sh⟩:=p;dsimp only at hr ht;obtain ⟨k0,k1⟩:=ht.cells
 cases sh with
 | true=>
  go_enter func133,ntmps133;go_wp2_with fail
  go_ret;exact ⟨rfl,Below.refl _ _⟩
 | false=>
  have hd:=Bt.xa g c s w hr hs;obtain ⟨b,hb⟩:∃b,dn (tb (bA s)) c=b:=⟨_,rfl⟩;rw [hb] at hd;dsimp only;rw [hb];clear hb hr ht;go_enter func133,ntmps133;go_wp2_with fail
  refine hd.mono ?_;rintro e w2 ⟨rfl,hb2⟩;clear hd k0 k1;go_wp2_with fail
  go_ret;exact ⟨by cases b <;> rfl,hb2⟩
/- What Read has in hand. -/
def rz:Array Value:=#[.int .i64 0,.int .i64 0,.slice none 0 0,.slice none 0 0]
structure RS (w W:World) (R g K A n0:Nat) (p:Nat×Bool) (s:ByteArray) (e f:Int) (vL vJ:Value) (L:List Int) (J:List (Int×Int)):Prop where
 rr:Rr W g p.1 s
 tk:nQ W K g p.2
 rc:bh W A #[.int .i64 e,.int .i64 f,vL,vJ]
 rs:bh W R rz
 rl:W.ownsRow n0 3 1 vL L.length (cq L)
 rj:W.ownsRow n0 113 2 vJ J.length (ps J)
 aK:Below w.heap.size w W
 ne:R≠A
 le:w.heap.size≤R∧w.heap.size≤g∧w.heap.size≤K∧w.heap.size≤A
 lt:R<n0∧g<n0∧K<n0∧A<n0
 sz:n0≤W.heap.size
theorem yR {W':World} {e':TypeId} {sz':Nat} {v':Value} {n':Nat} {xs':List Value} (h:W.ownsRow b e sz v n xs) (h':W.ownsRow b' e' sz' v' n' xs') (hne:e≠e') (hg:W.grownBy W' v'.ownBlock):W'.ownsRow b e sz v n xs:=by
 refine kQ h fun k hk=>?_
 rcases h.2 with ⟨rfl,_⟩ | ⟨g0,cap,cur,rfl,h3,h4,_⟩
 ·simp [Value.ownBlock] at hk
 ·simp [Value.ownBlock] at hk;subst hk;exact hg.block _ (Array.getElem?_eq_some_iff.1 h4).1 (kP h' h4 hne)
section
variable {w W W':World} {R g K A n0:Nat} {p p':Nat×Bool} {s:ByteArray} {e f:Int} {vL vJ v':Value} {L:List Int} {J:List (Int×Int)}
theorem RS.num (h:RS w W R g K A n0 p s e f vL vJ L J) (hr:Rr W' g p'.1 s) (ht:nQ W' K g p'.2) (hk:Bt.Kept (fun k=>k=g∨k=K) W W'):RS w W' R g K A n0 p' s e f vL vJ L J:=by
 obtain ⟨l1,l2,l3,l4⟩:=h.lt;obtain ⟨m1,m2,m3,m4⟩:=h.le;have a1:A≠g:=ay h.rc h.rr.blk (by decide);have a2:A≠K:=ay h.rc h.tk (by decide);have r1:R≠g:=ay h.rs h.rr.blk (by decide);have r2:R≠K:=ay h.rs h.tk (by decide);have far:∀k,n0≤k→k<W.heap.size→W'.heap[k]? =W.heap[k]? :=fun k IP mj=>hk.block k mj (by omega)
 exact ⟨hr,ht,(hk.block A (Array.getElem?_eq_some_iff.1 h.rc).1 (by omega)).trans h.rc,(hk.block R (Array.getElem?_eq_some_iff.1 h.rs).1 (by omega)).trans h.rs,Rs.aY h.rl far,Rs.aY h.rj far,h.aK.trans (hk.below h.aK.size (fun k hk=>by omega)),h.ne,h.le,h.lt,Nat.le_trans h.sz hk.size⟩
theorem RS.later (h:RS w W R g K A n0 p s e f vL vJ L J) (hb:Below W.heap.size W W'):RS w W' R g K A n0 p s e f vL vJ L J:=
 ⟨⟨(hb.block g (Array.getElem?_eq_some_iff.1 h.rr.blk).1).trans h.rr.blk,h.rr.le⟩,(hb.block K (Array.getElem?_eq_some_iff.1 h.tk).1).trans h.tk,h.rc.later hb,h.rs.later hb,ar h.rl hb,ar h.rj hb,h.aK.trans (hb.mono h.aK.size),h.ne,h.le,h.lt,Nat.le_trans h.sz hb.size⟩
theorem RS.set (h:RS w W R g K A n0 p s e f vL vJ L J) (j:Nat) (v:Value) {e' f':Int} {vL' vJ':Value} {L':List Int} {J':List (Int×Int)} (hc:(#[.int .i64 e,.int .i64 f,vL,vJ]:Array Value).setIfInBounds j v=#[.int .i64 e',.int .i64 f',vL',vJ'])
  (hl:W.ownsRow n0 3 1 vL' L'.length (cq L')) (hj:W.ownsRow n0 113 2 vJ' J'.length (ps J')):RS w (W.setCell ⟨A,j,none⟩ v) R g K A n0 p s e' f' vL' vJ' L' J':=by
 obtain ⟨l1,l2,l3,l4⟩:=h.lt;obtain ⟨m1,m2,m3,m4⟩:=h.le;have a1:g≠A:=Ne.symm (ay h.rc h.rr.blk (by decide));have a2:K≠A:=Ne.symm (ay h.rc h.tk (by decide));have far:∀k,n0≤k→k<W.heap.size→(W.setCell ⟨A,j,none⟩ v).heap[k]? =W.heap[k]? :=fun k IP mj=>Rt.au (by omega) _ _
 refine ⟨⟨(Rt.au a1 _ _).trans h.rr.blk,h.rr.le⟩,(Rt.au a2 _ _).trans h.tk,?_,(Rt.au h.ne _ _).trans h.rs,Rs.aY hl far,Rs.aY hj far,h.aK.setCell (p:=⟨A,j,none⟩) m4 _,h.ne,h.le,h.lt,by simpa using h.sz⟩;have:=Rt.aO h.rc j v;rw [hc] at this;exact this
end
theorem ZU {ops:Array Oper} {o:Oper} {a:Act} {K:Act→World→Prop} {Q:Exit→Act→World→Prop} {E:Prop} (hw:Region.wanted o (yielded ops a.tmps)=true) (d:Tmp) (hd:o.dst=some d) (s x:Operand)
  (ho:o.op=.call {callee:=.builtin .append,args:=#[s,x],argTypes:=#[41,41]})
  (n0:Nat) (v:Value) (l:List Int) (hs:a.eval s=v) (hown:w.ownsRow n0 3 1 v l.length (cq l)) (g:Nat) (y:Int) (hx:a.eval x=.slice (some ⟨g,0,none⟩) 1 1)
  (hnews:∀j u,[Value.int .i64 y][j]? =some u→w.cell? ((⟨g,0,none⟩:Addr).add j)=some u) (hl:l.length≤4096) (hb:n0≤w.heap.size)
  (h:∀v' w',w'.ownsRow n0 3 1 v' (l++[y]).length (cq (l++[y]))→w.grownBy w' v.ownBlock→K (a.put (some d) v') w'):
  if Region.wanted o (yielded ops a.tmps)=true then Oper.wp prog o a w K Q else E:=by
 obtain ⟨i0,hi,hz0,hz1,hz2⟩:=info_parts iW;rw [if_pos hw];refine wp_append_own w s x 41 ho n0 3 i0 _ 1 8 underlying41 hi hz0 hz1 hz2 rfl (by omega) v l.length (cq l) hs hown ⟨g,0,none⟩ 1 1 [Value.int .i64 y] hx rfl hnews (by simp [Value.oneCell']) (by unfold maxLen;omega) (by omega) hb ?_;intro v' w' h2 h3 h4;rw [hd];refine h v' w' ?_ h3;have e:cq (l++[y])=cq l++[Value.int .i64 y]:=by simp [Rs.cq]
 rw [e,List.length_append];exact h2
theorem cR:∃i,prog.info? 113=some i∧i.zero=some (.agg #[.int .i64 0,.int .i64 0])∧i.size=2∧i.bytes=16:=by
 have h:=Rs.Da
 cases hq:prog.info? 113 with
 | none=>rw [hq] at h;cases h
 | some i=>
  rw [hq] at h;simp at h;exact ⟨i,rfl,h.1,h.2.1,h.2.2⟩
theorem RS.new (w:World) (s:ByteArray):RS w ((((w.alloc (.cells #[.int .i64 0,.int .i64 0,.slice none 0 0,.slice none 0 0] 70)).alloc (.cells #[.int .i64 0,.string s] 288)).alloc (.cells #[.pointer (some ⟨w.heap.size+1,0,none⟩),.bool false] 247)).alloc (.cells #[.int .i64 0,.int .i64 0,.slice none 0 0,.slice none 0 0] 70))
  w.heap.size (w.heap.size+1) (w.heap.size+2) (w.heap.size+3) (w.heap.size+4) (0,false) s 0 0 (.slice none 0 0) (.slice none 0 0) [] []:=by
 have a1:=heap_alloc_last w (.cells #[.int .i64 0,.int .i64 0,.slice none 0 0,.slice none 0 0] 70);have b1:=aa w (.cells #[.int .i64 0,.int .i64 0,.slice none 0 0,.slice none 0 0] 70);have s1:(w.alloc (.cells #[.int .i64 0,.int .i64 0,.slice none 0 0,.slice none 0 0] 70)).heap.size=w.heap.size+1:=World.size_alloc _ _;generalize w.alloc (.cells #[.int .i64 0,.int .i64 0,.slice none 0 0,.slice none 0 0] 70)=w1 at *;have a2:=heap_alloc_last w1 (.cells #[.int .i64 0,.string s] 288);have b2:=aa w1 (.cells #[.int .i64 0,.string s] 288);have s2:(w1.alloc (.cells #[.int .i64 0,.string s] 288)).heap.size=w1.heap.size+1:=World.size_alloc _ _;generalize w1.alloc (.cells #[.int .i64 0,.string s] 288)=w2 at *;have a3:=heap_alloc_last w2 (.cells #[.pointer (some ⟨w.heap.size+1,0,none⟩),.bool false] 247);have b3:=aa w2 (.cells #[.pointer (some ⟨w.heap.size+1,0,none⟩),.bool false] 247);have s3:(w2.alloc (.cells #[.pointer (some ⟨w.heap.size+1,0,none⟩),.bool false] 247)).heap.size=w2.heap.size+1:=World.size_alloc _ _;generalize w2.alloc (.cells #[.pointer (some ⟨w.heap.size+1,0,none⟩),.bool false] 247)=w3 at *;have a4:=heap_alloc_last w3 (.cells #[.int .i64 0,.int .i64 0,.slice none 0 0,.slice none 0 0] 70);have b4:=aa w3 (.cells #[.int .i64 0,.int .i64 0,.slice none 0 0,.slice none 0 0] 70);have s4:(w3.alloc (.cells #[.int .i64 0,.int .i64 0,.slice none 0 0,.slice none 0 0] 70)).heap.size=w3.heap.size+1:=World.size_alloc _ _;generalize w3.alloc (.cells #[.int .i64 0,.int .i64 0,.slice none 0 0,.slice none 0 0] 70)=w4 at *;have e2:w2.heap.size=w.heap.size+2:=by omega
 have e3:w3.heap.size=w.heap.size+3:=by omega
 have e4:w4.heap.size=w.heap.size+4:=by omega
 rw [s1] at a2;rw [e2] at a3;rw [e3] at a4;refine ⟨⟨?_,Nat.zero_le _⟩,?_,a4,?_,World.ownsRow_nil _ _ _ _,World.ownsRow_nil _ _ _ _,?_,by omega,by omega,by omega,by omega⟩
 ·exact (b4.block _ (by omega)).trans ((b3.block _ (by omega)).trans a2)
 ·exact (b4.block _ (by omega)).trans a3
 ·exact (b4.block _ (by omega)).trans ((b3.block _ (by omega)).trans ((b2.block _ (by omega)).trans a1))
 ·exact ((b1.trans (b2.mono (by omega))).trans (b3.mono (by omega))).trans (b4.mono (by omega))
/- What Read answers. -/
def ra (w w':World) (T:List Bool) (r:Ending):Prop:=∃vL vJ,r=.returned (.tuple #[.agg #[.int .i64 (VU T),.int .i64 (VT T),vL,vJ],.int .i64 (Tw T)])∧w'.ownsRow w.heap.size 3 1 vL (Mc T).length (cq (Mc T))∧w'.ownsRow w.heap.size 113 2 vJ (Md T).length (ps (Md T))∧Below w.heap.size w w'
theorem ra.no (h:xZ T=false) (hb:Below w.heap.size w w'):ra w w' T (.returned (.tuple #[.agg rz,.int .i64 12])):=by
 refine ⟨.slice none 0 0,.slice none 0 0,?_,?_,?_,hb⟩
 ·unfold VU VT Tw;rw [h];rfl
 ·unfold Mc;rw [h];exact World.ownsRow_nil _ _ _ _
 ·unfold Md;rw [h];exact World.ownsRow_nil _ _ _ _
theorem CL (h:W.ownsRow b e sz v n xs) (hb:b'≤b):W.ownsRow b' e sz v n xs:=by
 obtain ⟨q1,q2⟩:=h;refine ⟨q1,?_⟩;rcases q2 with q2 | ⟨g,cap,cur,rfl,h3,r⟩
 ·exact .inl q2
 ·exact .inr ⟨g,cap,cur,rfl,by omega,r⟩
theorem ra.yes {vL vJ:Value} {n0:Nat} (h:xZ T=true) (hl:w'.ownsRow n0 3 1 vL (jh T).length (cq (jh T))) (hj:w'.ownsRow n0 113 2 vJ (n_ T).length (ps (n_ T))) (hn:w.heap.size≤n0) (hb:Below w.heap.size w w'):ra w w' T (.returned (.tuple #[.agg #[.int .i64 (kN T),.int .i64 (kM T),vL,vJ],.int .i64 0])):=by
 refine ⟨vL,vJ,?_,?_,?_,hb⟩
 ·unfold VU VT Tw;rw [h];rfl
 ·unfold Mc;rw [h];exact CL hl hn
 ·unfold Md;rw [h];exact CL hj hn
end Go.Proofs.YtanaapfobpgibaaGreatDoor.Rc
