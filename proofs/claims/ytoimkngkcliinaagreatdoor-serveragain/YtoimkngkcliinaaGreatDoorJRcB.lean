/- RcB, RcC, joined. -/
import Derived.Test.YtoimkngkcliinaaGreatDoorJRcMath
import Derived.Test.YtoimkngkcliinaaGreatDoorJPlA
import Derived.Test.YtoimkngkcliinaaGreatDoorJBitDone
import Derived.Test.YtoimkngkcliinaaGreatDoorJRsSm
import Derived.Test.YtoimkngkcliinaaGreatDoorJJnO
namespace Go.Proofs.YtoimkngkcliinaaGreatDoor.Rc
open Go.RowKit Go.Maps
open Rs (RdI cell_later)
open Bt (RdF pkS pkE)
set_option linter.unusedVariables false
set_option linter.unusedSimpArgs false
/- Fields as cells. -/
def fcs (x:Nat×Int):List Value:=[.int .u64 (x.1:Int),.int .i64 x.2]
def fsl (l:List (Nat×Int)):List Value:=l.flatMap fcs
theorem fsl_snoc (l:List (Nat×Int)) (x:Nat×Int):fsl (l++[x])=fsl l++fcs x:=by simp [fsl]
theorem fsl_get:∀(l:List (Nat×Int)) (i:Nat),i<l.length→(fsl l)[i * 2]? =some (.int .u64 ((l.getD i (0,0)).1:Int))∧(fsl l)[i * 2+1]? =some (.int .i64 (l.getD i (0,0)).2)
 | [],i,h=>by cases h
 | x::l,i,hi=>by
  have e:fsl (x::l)=.int .u64 (x.1:Int):: .int .i64 x.2::fsl l:=rfl;rw [e]
  cases i with
  | zero=>exact ⟨rfl,rfl⟩
  | succ i=>
   have:=fsl_get l i (by simpa using hi);rw [show (i+1) * 2=i * 2+1+1 by omega,show i * 2+1+1+1=(i * 2+1)+1+1 by omega]
   simpa using this
theorem infoF:(Tryz.prog.info? 162).map (fun i=>(i.zero,i.size,i.bytes))=some (some (.agg #[.int .u64 0,.int .i64 0]),2,16):=by kernel_rfl
theorem infoF_parts:∃i,Tryz.prog.info? 162=some i∧i.zero=some (.agg #[.int .u64 0,.int .i64 0])∧i.size=2∧i.bytes=16:=by
 have h:=infoF
 cases hq:Tryz.prog.info? 162 with
 | none=>rw [hq] at h;cases h
 | some i=>
  rw [hq] at h;simp at h;exact ⟨i,rfl,h.1,h.2.1,h.2.2⟩
def KeptF (W W':World):Prop:=∀(k:Nat) (cs:Array Value) (T:TypeId),W.heap[k]? =some (.cells cs T (0,0))→T≠162→T≠153→W'.heap[k]? =some (.cells cs T (0,0))
/- The record, boxed, and the list that is gathered. -/
structure FL (w W:World) (BR BL n0:Nat) (rc:Array Value) (vl:Value) (l:List (Nat×Int)):Prop where
 rc:RcAt W BR rc
 li:W.heap[BL]? =some (.cells #[vl] 153 (0,0))
 row:W.ownsRow n0 162 2 vl l.length (fsl l)
 bel:Below w.heap.size w W
 bt:BR<n0
 bl:BL<n0
 ne:BR≠BL
 wl:w.heap.size≤BL
 sz:n0≤W.heap.size
theorem FL.later {w W W':World} {BR BL n0:Nat} {rc:Array Value} {vl:Value} {l:List (Nat×Int)} (h:FL w W BR BL n0 rc vl l) (hb:Below W.heap.size W W'):FL w W' BR BL n0 rc vl l:=
 ⟨h.rc.later hb,(hb.block BL (Array.getElem?_eq_some_iff.1 h.li).1).trans h.li,Rs.owns_later h.row hb,h.bel.trans (hb.mono h.bel.size),h.bt,h.bl,h.ne,h.wl,Nat.le_trans h.sz hb.size⟩
theorem FL.cell {w W:World} {BR BL n0:Nat} {rc:Array Value} {vl:Value} {l:List (Nat×Int)} (h:FL w W BR BL n0 rc vl l):W.cell? ⟨BL,0,none⟩=some vl:=cell_of_row W BL 0 _ _ _ h.li
theorem FL.app {w W W1:World} {BR BL n0:Nat} {rc:Array Value} {vl v':Value} {l:List (Nat×Int)} {o:Obj} {x:Nat×Int} (h:FL w W BR BL n0 rc vl l) (hown:W1.ownsRow n0 162 2 v' (l.length+1) (fsl l++fcs x)) (hg:(W.alloc o).grownBy W1 vl.ownBlock):
  W1.heap[BL]? =some (.cells #[vl] 153 (0,0))∧FL w (W1.setCell ⟨BL,0,none⟩ v') BR BL n0 rc v' (l++[x]):=by
 have hs1:=(Array.getElem?_eq_some_iff.1 h.rc).1;have hs2:=(Array.getElem?_eq_some_iff.1 h.li).1
 have blk:∀k,k<n0→k<W.heap.size→W1.heap[k]? =W.heap[k]? :=fun k hk hk2=>by
  rw [hg.block k (by simp;omega) (Rs.row_far h.row hk)];exact ((Below.refl _ W).alloc (Nat.le_refl _) o).block k (by omega)
 have hli:W1.heap[BL]? =some (.cells #[vl] 153 (0,0)):=(blk _ h.bl hs2).trans h.li;have hwl:=h.wl;have hbl:=h.bl;have hsz:n0≤W1.heap.size:=by have h1:=hg.size;have h2:=h.sz;simp at h1;omega
 refine ⟨hli,⟨?_,?_,?_,?_,h.bt,h.bl,h.ne,h.wl,by simpa using hsz⟩⟩
 ·exact (Rt.other_setCell h.ne _ _).trans ((blk _ h.bt hs1).trans h.rc)
 ·exact Rt.row_setCell hli 0 v'
 ·rw [fsl_snoc,List.length_append];exact Rs.owns_block hown fun j hj _=>Rt.other_setCell (by omega) _ _
 ·refine Below.setCell (p:=⟨BL,0,none⟩) ?_ h.wl _;have b1:=h.bel.alloc h.bel.size o
  exact Below.grown b1 hg (by have:=h.bel.size;simp;omega) fun j hj=>by
   rcases Nat.lt_or_ge j n0 with hlt | hge
   ·exact absurd hj.symm (Rs.row_far h.row hlt)
   ·omega
theorem FL.appK {w W W1:World} {BR BL n0:Nat} {rc:Array Value} {vl v':Value} {l:List (Nat×Int)} {o:Obj} (h:FL w W BR BL n0 rc vl l) (hg:(W.alloc o).grownBy W1 vl.ownBlock):KeptF W (W1.setCell ⟨BL,0,none⟩ v'):=fun k cs T hk h1 h2=>by
 have hkl:=(Array.getElem?_eq_some_iff.1 hk).1;have hne:k≠BL:=block_ne hk h.li h2;rw [Rt.other_setCell hne,hg.block k (by simp;omega) (own_type h.row hk h1)];exact (((Below.refl _ W).alloc (Nat.le_refl _) o).block k (by omega)).trans hk
def FP (w W W':World) (BR BL n0:Nat) (rc:Array Value) (l:List (Nat×Int)):Prop:=∃vl',FL w W' BR BL n0 rc vl' l∧KeptF W W'
theorem FP.of {w W W':World} {BR BL n0:Nat} {rc:Array Value} {l:List (Nat×Int)} {v:Value} (h:FL w W' BR BL n0 rc v l) (k:KeptF W W'):FP w W W' BR BL n0 rc l:=⟨v,h,k⟩
def FX (w W:World) (BR BL n0:Nat) (rc:Array Value) (l:List (Nat×Int)):Prop:=∃vl,FL w W BR BL n0 rc vl l
theorem wrap_u64 (v:Nat) (h:v<18446744073709551616):IntKind.u64.wrap (v:Int)=(v:Int):=by rw [IntKind.wrap_u64];omega
set_option maxRecDepth 100000 in
set_option maxHeartbeats 1000000 in
theorem add_any (v:Nat) (q:Int) (hv:v<18446744073709551616) {w W:World} {BR BL n0:Nat} {rc:Array Value} {vl:Value} {l:List (Nat×Int)} (hG:FL w W BR BL n0 rc vl l) (hlen:l.length≤4096):
  Calls Tryz.prog 264 #[.int .i64 (v:Int),.int .i64 q,.pointer (some ⟨BL,0,none⟩)] W fun e W'=>e=.returned (.tuple #[])∧FP w W W' BR BL n0 rc (l++[(v,q)]):=by
 obtain ⟨i0,hi,hz0,hz1,hz2⟩:=infoF_parts;have hwr:=wrap_u64 v hv;have hcl:=hG.cell;have hrow:=hG.row;obtain ⟨a1,cap1,rfl⟩:=Rs.owns_slice hrow;have HG:Hid (FL w W BR BL n0 rc (.slice a1 l.length cap1) l):=hG;have hn0:n0≤W.heap.size:=HG.out.sz;clear hG;go_enter Tryz.func264,Tryz.ntmps264;go_wp2_with (at_builtin;(refine wpList_append_own _ rfl _ _ 153 rfl n0 162 i0 (.agg #[.int .u64 0,.int .i64 0]) 2 16 Tryz.underlying153 hi hz0 hz1 hz2 rfl (by decide) (.slice a1 l.length cap1) l.length (fsl l) rfl (hrow.alloc _) ⟨W.heap.size,0,none⟩ 1 1 [.int .u64 (v:Int),.int .i64 q] rfl rfl (cell_row_new _ _ _) (by simp [Value.oneCell']) (by unfold maxLen;omega) (by omega) (by simp;omega) ?_);intro v' w3 hown' hg3 _;obtain ⟨a2,cap2,hv2⟩:=Rs.owns_slice hown';subst hv2;have HAP:Hid (w3.heap[BL]? =some (.cells #[.slice a1 l.length cap1] 153 (0,0))∧FL w (w3.setCell ⟨BL,0,none⟩ (.slice a2 (l.length+1) cap2)) BR BL n0 rc (.slice a2 (l.length+1) cap2) (l++[(v,q)])):=HG.out.app (x:=(v,q)) hown' hg3;have HKP:Hid (KeptF W (w3.setCell ⟨BL,0,none⟩ (.slice a2 (l.length+1) cap2))):=HG.out.appK (v':=.slice a2 (l.length+1) cap2) hg3;clear hown' hg3;have hcB:w3.cell? ⟨BL,0,none⟩=some (.slice a1 l.length cap1):=cell_of_row w3 BL 0 _ _ _ HAP.out.1;have hfB:w3.frozen? ⟨BL,0,none⟩=false:=Rt.row_frozen HAP.out.1 0)
 go_end0
 exact ⟨rfl,FP.of HAP.out.2 HKP.out⟩
/- A seat in a block. -/
def SeAt (w:World) (B:Nat) (a b:Int):Prop:=w.heap[B]? =some (.cells #[.int .i64 a,.int .i64 b] 165 (0,0))
theorem SeAt.cells {w:World} {B:Nat} {a b:Int} (h:SeAt w B a b):w.cell? ⟨B,0,none⟩=some (.int .i64 a)∧w.cell? ⟨B,1,none⟩=some (.int .i64 b):=⟨cell_of_row w B 0 _ _ _ h,cell_of_row w B 1 _ _ _ h⟩
theorem SeAt.kept {w w':World} {B:Nat} {a b:Int} (h:SeAt w B a b) (k:KeptF w w'):SeAt w' B a b:=k _ _ _ h (by decide) (by decide)
theorem fL_take {L:List Int} {k:Nat} (h:k<L.length):fL (L.take (k+1))=fL (L.take k)++[((L.getD k 0).toNat,8)]:=by rw [take_nx 0 h,fL_snoc]
theorem fJ_take {J:List (Int×Int)} {k:Nat} (h:k<J.length):fJ (J.take (k+1))=fJ (J.take k)++[((J.getD k (0,0)).1.toNat,8)]++[((J.getD k (0,0)).2.toNat,6)]:=by rw [take_nx (0,0) h,fJ_snoc];simp
theorem rdF_of {W:World} {n0:Nat} {a:Option Addr} {cap:Nat} {l:List (Nat×Int)} (h:W.ownsRow n0 162 2 (.slice a l.length cap) l.length (fsl l)) (hl:∀x∈l,x.1<18446744073709551616):RdF W a l:=by
 rcases h.2 with ⟨e,h0⟩ | ⟨g,cap',cur,e,h3,h4,h5,h6,h7,h8⟩
 ·intro i hi;omega
 ·cases e
  intro i hi;obtain ⟨p0,p1⟩:=fsl_get l i hi
  have cell:∀j v,j<l.length * 2→(fsl l)[j]? =some v→W.cell? ⟨g,j,none⟩=some v:=fun j v hj hv=>by
   rw [cell_of_row W g j _ _ _ h4,←hv,←h8,List.getElem?_take_of_lt hj];simp
  refine ⟨g,0,rfl,?_,?_,hl _ (getD_mem' (0,0) hi)⟩
  ·rw [Nat.zero_add];exact cell _ _ (by omega) p0
  ·rw [Nat.zero_add];exact cell _ _ (by omega) p1
set_option maxRecDepth 100000 in
set_option maxHeartbeats 4000000 in
theorem fields_any (e f:Int) (aL aJ:Option Addr) (cL cJ:Nat) (L:List Int) (J:List (Int×Int)) (w:World) (rL:RdI w aL L) (rJ:RdP w aJ J) (hr:rgt e f L J=true):
  Calls Tryz.prog 197 #[.agg #[.int .i64 e,.int .i64 f,.slice aL L.length cL,.slice aJ J.length cJ]] w fun r w'=>∃a cap,r=.returned (.slice a (flds e f L J).length cap)∧RdF w' a (flds e f L J)∧Below w.heap.size w w':=by
 have HR:=rgt_iff.1 hr;clear hr;obtain ⟨ev,rfl⟩:∃ev:Nat,e=(ev:Int):=⟨e.toNat,by have:=HR.e1;omega⟩;obtain ⟨fv,rfl⟩:∃fv:Nat,f=(fv:Int):=⟨f.toNat,by have:=HR.f1;omega⟩;have hev:ev≤200:=by have:=HR.e2;omega
 have hfv:fv≤32768:=by have:=HR.f2;omega
 have hnL:=HR.l1;have hnJ:=HR.j1;obtain ⟨nL,hnl⟩:∃n,L.length=n:=⟨_,rfl⟩;obtain ⟨nJ,hnj⟩:∃n,J.length=n:=⟨_,rfl⟩;have HNL:Hid (L.length=nL):=hnl;have HNJ:Hid (J.length=nJ):=hnj;have HF:Hid (flds (ev:Int) (fv:Int) L J=[(ev,8),(fv,16),(nL,7)]++fL L++[(nJ,7)]++fJ J):=by unfold Hid flds;rw [hnl,hnj];simp
 have HRR:Hid (Rgt (ev:Int) (fv:Int) L J):=HR;clear HR;rw [hnl] at hnL ⊢;rw [hnj] at hnJ ⊢;clear hnl hnj;have hwL:IntKind.i64.wrap ((nL:Nat):Int)=(nL:Int):=Bt.wrap_fit _ (by omega) (by omega);obtain ⟨rec,hrec⟩:∃r,r=(#[.int .i64 (ev:Int),.int .i64 (fv:Int),.slice aL nL cL,.slice aJ nJ cJ]:Array Value):=⟨_,rfl⟩;have h1:=RcAt.new w #[.int .i64 (ev:Int),.int .i64 (fv:Int),.slice aL nL cL,.slice aJ nJ cJ];have hb1:=below_alloc w (.cells #[.int .i64 (ev:Int),.int .i64 (fv:Int),.slice aL nL cL,.slice aJ nJ cJ] 94);have h2:=heap_alloc_last (w.alloc (.cells #[.int .i64 (ev:Int),.int .i64 (fv:Int),.slice aL nL cL,.slice aJ nJ cJ] 94)) (.cells #[.slice none 0 0] 153);have hb2:=below_alloc (w.alloc (.cells #[.int .i64 (ev:Int),.int .i64 (fv:Int),.slice aL nL cL,.slice aJ nJ cJ] 94)) (.cells #[.slice none 0 0] 153);rw [World.size_alloc] at h2
 have hG0:FL w ((w.alloc (.cells #[.int .i64 (ev:Int),.int .i64 (fv:Int),.slice aL nL cL,.slice aJ nJ cJ] 94)).alloc (.cells #[.slice none 0 0] 153)) w.heap.size (w.heap.size+1) (w.heap.size+2) #[.int .i64 (ev:Int),.int .i64 (fv:Int),.slice aL nL cL,.slice aJ nJ cJ] (.slice none 0 0) []:=
  ⟨h1.later hb2,h2,World.ownsRow_nil _ _ _ _,hb1.trans (hb2.mono hb1.size),by omega,by omega,by omega,by omega,by simp⟩
 clear h1 hb1 h2 hb2;go_enter Tryz.func197,Tryz.ntmps197;go_upto_region 3 with (fail)
 generalize (w.alloc (.cells #[.int .i64 (ev:Int),.int .i64 (fv:Int),.slice aL nL cL,.slice aJ nJ cJ] 94)).alloc (.cells #[.slice none 0 0] 153)=w1 at *;obtain ⟨BR,hBR⟩:∃B,w.heap.size=B:=⟨_,rfl⟩;obtain ⟨BL,hBL⟩:∃B,w.heap.size+1=B:=⟨_,rfl⟩;obtain ⟨n0,hn0⟩:∃B,w.heap.size+2=B:=⟨_,rfl⟩;rw [hn0,hBL,hBR] at hG0;rw [hBL,hBR];clear hn0 hBL hBR;rw [←hrec] at hG0;have HRC:Hid (rec=(#[.int .i64 (ev:Int),.int .i64 (fv:Int),.slice aL nL cL,.slice aJ nJ cJ]:Array Value)):=hrec;clear hrec;have ha1:=add_any ev 8 (by omega) hG0 (by simp);obtain ⟨r0,r1,r2,r3⟩:=RcAt.cells (HRC.out ▸ hG0.rc);go_wp2_with fail
 refine ha1.mono ?_;rintro r w2 ⟨rfl,vl2,hG2,_⟩;clear ha1 hG0 r0 r1 r2 r3;have ha2:=add_any fv 16 (by omega) hG2 (by simp);obtain ⟨r0,r1,r2,r3⟩:=RcAt.cells (HRC.out ▸ hG2.rc);go_wp2_with fail
 refine ha2.mono ?_;rintro r w3 ⟨rfl,vl3,hG3,_⟩;clear ha2 hG2 r0 r1 r2 r3;have ha3:=add_any nL 7 (by omega) hG3 (by simp);obtain ⟨r0,r1,r2,r3⟩:=RcAt.cells (HRC.out ▸ hG3.rc);go_wp2_with fail
 refine ha3.mono ?_;rintro r w4 ⟨rfl,vl4,hG4,_⟩;have HG4:Hid (FX w w4 BR BL n0 rec ([(ev,8),(fv,16),(nL,7)]++fL (L.take 0))):=⟨vl4,by simpa [fL] using hG4⟩;obtain ⟨r0',r1',r2',r3'⟩:=RcAt.cells (HRC.out ▸ hG4.rc);clear ha3 hG3 hG4 r0 r1 r2 r3;go_wp2_with fail
 go_loopw [26] (fun i wx=>∃k:Nat,k≤nL∧i=.int .i64 (k:Int)∧FX w wx BR BL n0 rec ([(ev,8),(fv,16),(nL,7)]++fL (L.take k))) (fun i _=>nL - (intOf i).toNat)
 case atStart=>exact ⟨0,by omega,rfl,HG4.out⟩
 case round=>
  obtain ⟨k,hk,rfl,hGX⟩:=hrel;have HGX:Hid (FX w wr BR BL n0 rec ([(ev,8),(fv,16),(nL,7)]++fL (L.take k))):=hGX;clear hGX HG4 r0' r1' r2' r3';by_cases hkn:k<nL
  ·have hkL:k<L.length:=by rw [HNL.out];exact hkn
   obtain ⟨vl,hG⟩:=HGX.out;obtain ⟨b,o,rfl,c0⟩:=rL k hkL;have c0:=cell_later hG.bel c0;have i1:(0:Int)≤(k:Int):=by omega
   have i2:(k:Int)<(nL:Int):=by omega
   have HS:Hid (fL (L.take (k+1))=fL (L.take k)++[((L.getD k 0).toNat,8)]):=fL_take hkL;have hwx:=who_iff.1 (HRR.out.lw _ (getD_mem' 0 hkL));obtain ⟨x,hx⟩:∃x:Nat,L.getD k 0=(x:Int):=⟨(L.getD k 0).toNat,by omega⟩;rw [hx] at c0 hwx HS;rw [Int.toNat_natCast] at HS;have hx256:x<256:=by omega
   have ha:=add_any x 8 (by omega) hG (by simp;omega);clear hx hwx hG HGX hkL rL rJ;go_wp2_with fail
   refine ha.mono ?_;rintro r w6 ⟨rfl,vl6,hG6,_⟩;have HG6:Hid (FX w w6 BR BL n0 rec ([(ev,8),(fv,16),(nL,7)]++fL (L.take (k+1)))):=⟨vl6,by rw [HS.out,←List.append_assoc];exact hG6⟩;clear hG6 ha;go_wp2_with fail
   go_roundw
   case rel=>exact ⟨k+1,by omega,by go_num,HG6.out⟩
   case measure=>simp [intOf];omega
  ·have hkn':decide ((k:Int)<(nL:Int))=false:=by simp;omega
   have e:L.take k=L:=List.take_of_length_le (by rw [HNL.out];omega);rw [e] at HGX;obtain ⟨vl,hG⟩:=HGX.out;have ha:=add_any nJ 7 (by omega) hG (by simp;have:=HNL.out;omega);obtain ⟨r0,r1,r2,r3⟩:=RcAt.cells (HRC.out ▸ hG.rc);clear e hG HGX rL;go_wp2_with fail
   refine ha.mono ?_;rintro r w7 ⟨rfl,vl7,hG7,_⟩;have HG7:Hid (FX w w7 BR BL n0 rec ([(ev,8),(fv,16),(nL,7)]++fL L++[(nJ,7)]++fJ (J.take 0))):=⟨vl7,by simpa [fJ] using hG7⟩;clear r0 r1 r2 r3 ha;obtain ⟨r0,r1,r2,r3⟩:=RcAt.cells (HRC.out ▸ hG7.rc);clear hG7 hkn;go_wp2_with fail
   go_loopw [42] (fun i wx=>∃k:Nat,k≤nJ∧i=.int .i64 (k:Int)∧FX w wx BR BL n0 rec ([(ev,8),(fv,16),(nL,7)]++fL L++[(nJ,7)]++fJ (J.take k))) (fun i _=>nJ - (intOf i).toNat)
   case atStart=>exact ⟨0,by omega,rfl,HG7.out⟩
   case round=>
    obtain ⟨k,hk,rfl,hGX⟩:=hrel;have HGX:Hid (FX w wr BR BL n0 rec ([(ev,8),(fv,16),(nL,7)]++fL L++[(nJ,7)]++fJ (J.take k))):=hGX;clear hGX HG7 r0 r1 r2 r3;by_cases hkn:k<nJ
    ·have hkJ:k<J.length:=by rw [HNJ.out];exact hkn
     obtain ⟨vl,hG⟩:=HGX.out;obtain ⟨b,o,rfl,c0,c1⟩:=rJ k hkJ;have c0:=cell_later hG.bel c0;have c1:=cell_later hG.bel c1;have i1:(0:Int)≤(k:Int):=by omega
     have i2:(k:Int)<(nJ:Int):=by omega
     have HS:Hid (fJ (J.take (k+1))=fJ (J.take k)++[((J.getD k (0,0)).1.toNat,8)]++[((J.getD k (0,0)).2.toNat,6)]):=fJ_take hkJ;have hsx:=sea_iff.1 (HRR.out.js _ (getD_mem' (0,0) hkJ));obtain ⟨x,hx⟩:∃x:Nat,(J.getD k (0,0)).1=(x:Int):=⟨(J.getD k (0,0)).1.toNat,by omega⟩;obtain ⟨y,hy⟩:∃y:Nat,(J.getD k (0,0)).2=(y:Int):=⟨(J.getD k (0,0)).2.toNat,by omega⟩;rw [hx] at c0 hsx HS;rw [hy] at c1 hsx HS;rw [Int.toNat_natCast,Int.toNat_natCast] at HS;have hx256:x<256:=by omega
     have hy64:y<64:=by omega
     have hl1:([(ev,8),(fv,16),(nL,7)]++fL L++[(nJ,7)]++fJ (J.take k):List (Nat×Int)).length≤4000:=by simp;have:=HNL.out;omega
     have HL1:Hid (([(ev,8),(fv,16),(nL,7)]++fL L++[(nJ,7)]++fJ (J.take k):List (Nat×Int)).length≤4000):=hl1;have hSE:SeAt (wr.alloc (.cells #[.int .i64 (x:Int),.int .i64 (y:Int)] 165)) wr.heap.size (x:Int) (y:Int):=heap_alloc_last wr _;have hGa:=hG.later (below_alloc wr (.cells #[.int .i64 (x:Int),.int .i64 (y:Int)] 165));have ha:=add_any x 8 (by omega) hGa (by omega);obtain ⟨s0,s1⟩:=hSE.cells;clear hx hy hsx hG HGX hkJ rJ hl1;go_upto_region 15 with (fail)
     generalize wr.alloc (.cells #[.int .i64 (x:Int),.int .i64 (y:Int)] 165)=wa at *;generalize wr.heap.size=A at *;go_wp2_with fail
     refine ha.mono ?_;rintro r w6 ⟨rfl,vl6,hG6,hK6⟩;have hSE6:=hSE.kept hK6;clear ha hGa hSE s0 s1 hK6 c0 c1;have ha:=add_any y 6 (by omega) hG6 (by have:=HL1.out;simp at this ⊢;omega);obtain ⟨s0,s1⟩:=hSE6.cells;clear hSE6;go_wp2_with fail
     refine ha.mono ?_;rintro r w8 ⟨rfl,vl8,hG8,_⟩;have HG8:Hid (FX w w8 BR BL n0 rec ([(ev,8),(fv,16),(nL,7)]++fL L++[(nJ,7)]++fJ (J.take (k+1)))):=⟨vl8,by rw [HS.out,←List.append_assoc,←List.append_assoc];exact hG8⟩;clear hG8 hG6 ha s0 s1;go_wp2_with fail
     go_roundw
     case rel=>exact ⟨k+1,by omega,by go_num,HG8.out⟩
     case measure=>simp [intOf];omega
    ·have hkn':decide ((k:Int)<(nJ:Int))=false:=by simp;omega
     have e:J.take k=J:=List.take_of_length_le (by rw [HNJ.out];omega);rw [e] at HGX;rw [←HF.out] at HGX;obtain ⟨vl,hG⟩:=HGX.out;obtain ⟨a1,cap1,rfl⟩:=Rs.owns_slice hG.row;have hcl:=hG.cell;have HG:Hid (FL w wr BR BL n0 rec (.slice a1 (flds (ev:Int) (fv:Int) L J).length cap1) (flds (ev:Int) (fv:Int) L J)):=hG
     have HRD:Hid (RdF wr a1 (flds (ev:Int) (fv:Int) L J)):=rdF_of hG.row (fun x hx=>by
      have:=Bt.okF_width (HRR.out.fit.ok x hx);have h2:2^x.2.toNat≤2^64:=Nat.pow_le_pow_right (by decide) (by omega)
      omega)
     obtain ⟨FN,hFN⟩:∃n,(flds (ev:Int) (fv:Int) L J).length=n:=⟨_,rfl⟩;rw [hFN] at hcl;have HFN:Hid ((flds (ev:Int) (fv:Int) L J).length=FN):=hFN;clear e HGX hG hFN;go_wp2_with fail
     go_ret;exact ⟨a1,cap1,by rw [HFN.out];rfl,HRD.out,HG.out.bel⟩
set_option maxRecDepth 100000 in
set_option maxHeartbeats 1000000 in
theorem write_any (e f:Int) (aL aJ:Option Addr) (cL cJ:Nat) (L:List Int) (J:List (Int×Int)) (w:World) (rL:RdI w aL L) (rJ:RdP w aJ J):
  Calls Tryz.prog 136 #[.agg #[.int .i64 e,.int .i64 f,.slice aL L.length cL,.slice aJ J.length cJ]] w fun r w'=>r=.returned (.tuple #[.string (wrS e f L J),.int .i64 (wrE e f L J)])∧Below w.heap.size w w':=by
 have h1:=RcAt.new w #[.int .i64 e,.int .i64 f,.slice aL L.length cL,.slice aJ J.length cJ];have hb1:=below_alloc w (.cells #[.int .i64 e,.int .i64 f,.slice aL L.length cL,.slice aJ J.length cJ] 94);have hri:=right_any e f aL aJ cL cJ L J _ (rL.later hb1) (rJ.later hb1)
 cases hr:rgt e f L J with
 | false=>
  rw [hr] at hri;have HE:Hid (wrS e f L J=⟨#[]⟩∧wrE e f L J=12):=by unfold Hid wrS wrE;rw [hr];exact ⟨rfl,rfl⟩
  clear hr rL rJ h1;generalize L.length=nL at *;generalize J.length=nJ at *;go_enter Tryz.func136,Tryz.ntmps136;go_wp2_with fail
  refine hri.mono ?_;rintro r w2 ⟨rfl,hb2⟩;have HB:Hid (Below w.heap.size w w2):=hb1.trans (hb2.mono hb1.size);clear hb1 hb2 hri;go_wp2_with fail
  go_ret2
  exact ⟨by rw [HE.out.1,HE.out.2];rfl,HB.out⟩
 | true=>
  rw [hr] at hri
  have HE:Hid (pkS (flds e f L J)=wrS e f L J∧pkE (flds e f L J)=0∧wrE e f L J=0):=by
   have:=wr_pk hr;exact ⟨this.1,this.2,by unfold wrE;rw [hr];rfl⟩
  have hfl:=fields_any e f aL aJ cL cJ L J
  have HLN:Hid ((flds e f L J).length≤16777216):=by
   have hR:=rgt_iff.1 hr;have h1:=hR.l1;have h2:=hR.j1;unfold Hid;rw [flds_length];omega
  have HHR:Hid (rgt e f L J=true):=hr;have HRL:Hid (RdI w aL L∧RdP w aJ J):=⟨rL,rJ⟩;clear hr rL rJ;obtain ⟨nL,hnL⟩:∃n,L.length=n:=⟨_,rfl⟩;obtain ⟨nJ,hnJ⟩:∃n,J.length=n:=⟨_,rfl⟩;simp only [hnL,hnJ] at h1 hb1 hri hfl;rw [hnL,hnJ];clear hnL hnJ;go_enter Tryz.func136,Tryz.ntmps136;go_upto_region 1 with (fail)
  generalize w.alloc (.cells #[.int .i64 e,.int .i64 f,.slice aL nL cL,.slice aJ nJ cJ] 94)=w1 at *;obtain ⟨B,hB⟩:∃B,w.heap.size=B:=⟨_,rfl⟩;rw [hB] at h1 ⊢;clear hB;obtain ⟨r0,r1,r2,r3⟩:=h1.cells;go_wp2_with fail
  refine hri.mono ?_;rintro r w2 ⟨rfl,hb2⟩;have HB2:Hid (Below w.heap.size w w2):=hb1.trans (hb2.mono hb1.size);have hf2:=hfl w2 (HRL.out.1.later HB2.out) (HRL.out.2.later HB2.out) HHR.out;clear r0 r1 r2 r3;obtain ⟨r0,r1,r2,r3⟩:=(h1.later hb2).cells;clear hb1 hb2 hri h1 hfl;go_wp2_with fail
  refine hf2.mono ?_;rintro r w3 ⟨a,cap,rfl,hrd,hb3⟩;have hpk:=Bt.pack_any a cap _ (flds e f L J) rfl w3 HLN.out hrd;rw [HE.out.1,HE.out.2.1] at hpk;have HB3:Hid (Below w.heap.size w w3):=HB2.out.trans (hb3.mono HB2.out.size);clear r0 r1 r2 r3 hb3 hf2 hrd;generalize (flds e f L J).length=FN at *;go_wp2_with fail
  refine hpk.mono ?_;rintro r w4 ⟨rfl,hb4⟩;clear hpk;go_wp2_with fail
  go_ret2
  exact ⟨by rw [HE.out.2.2];rfl,HB3.out.trans (hb4.mono HB3.out.size)⟩
open Rs (RdI cell_later i64s i64s_length own_other owns_later owns_slice ps infoInt)
open Bt (Rr tb bys tb_length bys_length dn)
def TkAt (w:World) (K g:Nat) (sh:Bool):Prop:=w.heap[K]? =some (.cells #[.pointer (some ⟨g,0,none⟩),.bool sh] 367 (0,0))
theorem TkAt.cells {w:World} {K g:Nat} {sh:Bool} (h:TkAt w K g sh):w.cell? ⟨K,0,none⟩=some (.pointer (some ⟨g,0,none⟩))∧w.cell? ⟨K,1,none⟩=some (.bool sh):=⟨cell_of_row w K 0 _ _ _ h,cell_of_row w K 1 _ _ _ h⟩
theorem TkAt.kept {w w':World} {K g:Nat} {sh:Bool} (h:TkAt w K g sh) {F:Nat→Prop} (hk:Bt.Kept F w w') (hF:¬F K):TkAt w' K g sh:=(hk.block K (Array.getElem?_eq_some_iff.1 h).1 hF).trans h
theorem tk_ne {w:World} {K g c:Nat} {s:ByteArray} {sh:Bool} (h:TkAt w K g sh) (hr:Rr w g c s):K≠g:=block_ne h hr.blk (by decide)
set_option maxRecDepth 100000 in
set_option maxHeartbeats 1000000 in
theorem number_any {K g:Nat} {p:Nat×Bool} {s:ByteArray} (q:Nat) {w:World} (hr:Rr w g p.1 s) (ht:TkAt w K g p.2) (hs:s.size<1125899906842624) (h1:1≤q) (h2:q≤62):
  Calls Tryz.prog 241 #[.pointer (some ⟨K,0,none⟩),.int .i64 (q:Int)] w fun e w'=>e=.returned (.int .i64 ((nm1 (tb (bys s)) p q).1:Int))∧Rr w' g (nm1 (tb (bys s)) p q).2.1 s∧TkAt w' K g (nm1 (tb (bys s)) p q).2.2∧Bt.Kept (fun k=>k=g∨k=K) w w':=by
 obtain ⟨c,sh⟩:=p;dsimp only at hr ht;have hne:=tk_ne ht hr;have hTl:(tb (bys s)).length=8 * s.size:=by rw [tb_length,bys_length]
 obtain ⟨k0,k1⟩:=ht.cells;by_cases hc:c+q≤(tb (bys s)).length
 ·have HN:Hid (nm1 (tb (bys s)) (c,sh) q=(Bt.bv (((tb (bys s)).drop c).take q),(c+q,sh))):=by unfold Hid nm1;rw [if_pos hc]
  have hty:=Bt.take_yes g c q s w hr hs h1 (by omega) (by rw [←hTl];exact hc);have hlt:=nm1_lt (tb (bys s)) (c,sh) q;rw [HN.out] at hlt;dsimp only at hlt;obtain ⟨v,hv⟩:∃v,Bt.bv (((tb (bys s)).drop c).take q)=v:=⟨_,rfl⟩;rw [hv] at hlt HN hty;have hv62:v<4611686018427387904:=Nat.lt_of_lt_of_le hlt (by have:=Nat.pow_le_pow_right (n:=2) (by decide) h2;simpa using this);have hwv:IntKind.i64.wrap (v:Int)=(v:Int):=Bt.wrap_fit _ (by omega) (by omega);have HT:Hid (TkAt w K g sh):=ht;have HNE:Hid (K≠g):=hne;clear hc hlt hv hTl hr ht hne hs;go_enter Tryz.func241,Tryz.ntmps241;go_wp2_with fail
  refine hty.mono ?_;rintro e w2 ⟨rfl,hr2,hk2⟩;have HR2:Hid (Rr w2 g (c+q) s):=hr2;have HK2:Hid (Bt.Kept (fun k=>k=g) w w2):=hk2;clear hr2 hk2 hty;go_wp2_with fail
  go_ret;refine ⟨by rw [HN.out];rfl,by rw [HN.out];exact HR2.out,by rw [HN.out];exact HT.out.kept HK2.out HNE.out,HK2.out.mono fun i _ h=>.inl h⟩
 ·have HN:Hid (nm1 (tb (bys s)) (c,sh) q=(0,(c,true))):=by unfold Hid nm1;rw [if_neg hc]
  have htn:=Bt.take_no g c s (q:Int) w hr hs (by rintro ⟨_,h⟩;omega);have HT:Hid (TkAt w K g sh):=ht;have HNE:Hid (K≠g):=hne;have HR:Hid (Rr w g c s):=hr;clear hc hTl hr ht hne hs;go_enter Tryz.func241,Tryz.ntmps241;go_wp2_with fail
  refine htn.mono ?_;rintro e w2 ⟨rfl,hw2⟩
  have HK2:Hid (Bt.Kept (fun k=>k=g∨k=K) w w2):=by
   rcases hw2 with rfl | rfl
   ·exact Bt.Kept.refl _ _
   ·exact (Bt.Kept.refl _ _).drew
  have HR2:Hid (Rr w2 g c s):=by
   rcases hw2 with rfl | rfl
   ·exact HR.out
   ·exact HR.out.drew
  have HT2:Hid (TkAt w2 K g sh):=by
   rcases hw2 with rfl | rfl
   ·exact HT.out
   ·exact HT.out
  obtain ⟨j0,j1⟩:=HT2.out.cells;have jf:w2.frozen? ⟨K,1,none⟩=false:=Rt.row_frozen HT2.out 1;clear hw2 htn k0 k1;go_wp2_with fail
  go_ret;refine ⟨by rw [HN.out];rfl,?_,?_,HK2.out.setCell (p:=⟨K,1,none⟩) (fun _=>.inr rfl) _⟩
  ·rw [HN.out];exact ⟨(Rt.other_setCell (Ne.symm HNE.out) _ _).trans HR2.out.blk,HR2.out.le⟩
  ·rw [HN.out];exact Rt.row_setCell HT2.out 1 (.bool true)
set_option maxRecDepth 100000 in
theorem whole_any {K g:Nat} {p:Nat×Bool} {s:ByteArray} {w:World} (hr:Rr w g p.1 s) (ht:TkAt w K g p.2) (hs:s.size<1125899906842624):
  Calls Tryz.prog 242 #[.pointer (some ⟨K,0,none⟩)] w fun e w'=>e=.returned (.bool (!p.2&&dn (tb (bys s)) p.1))∧Below w.heap.size w w':=by
 obtain ⟨c,sh⟩:=p;dsimp only at hr ht;obtain ⟨k0,k1⟩:=ht.cells
 cases sh with
 | true=>
  go_enter Tryz.func242,Tryz.ntmps242;go_wp2_with fail
  go_ret;exact ⟨rfl,Below.refl _ _⟩
 | false=>
  have hd:=Bt.done_any g c s w hr hs;obtain ⟨b,hb⟩:∃b,dn (tb (bys s)) c=b:=⟨_,rfl⟩;rw [hb] at hd;dsimp only;rw [hb];clear hb hr ht;go_enter Tryz.func242,Tryz.ntmps242;go_wp2_with fail
  refine hd.mono ?_;rintro e w2 ⟨rfl,hb2⟩;clear hd k0 k1;go_wp2_with fail
  go_ret;exact ⟨by cases b <;> rfl,hb2⟩
/- What Read has in hand. -/
def rz:Array Value:=#[.int .i64 0,.int .i64 0,.slice none 0 0,.slice none 0 0]
structure RS (w W:World) (R g K A n0:Nat) (p:Nat×Bool) (s:ByteArray) (e f:Int) (vL vJ:Value) (L:List Int) (J:List (Int×Int)):Prop where
 rr:Rr W g p.1 s
 tk:TkAt W K g p.2
 rc:RcAt W A #[.int .i64 e,.int .i64 f,vL,vJ]
 rs:RcAt W R rz
 rl:W.ownsRow n0 3 1 vL L.length (i64s L)
 rj:W.ownsRow n0 165 2 vJ J.length (ps J)
 bel:Below w.heap.size w W
 ne:R≠A
 le:w.heap.size≤R∧w.heap.size≤g∧w.heap.size≤K∧w.heap.size≤A
 lt:R<n0∧g<n0∧K<n0∧A<n0
 sz:n0≤W.heap.size
theorem own_grown {W W':World} {b b':Nat} {e e':TypeId} {sz sz':Nat} {v v':Value} {n n':Nat} {xs xs':List Value} (h:W.ownsRow b e sz v n xs) (h':W.ownsRow b' e' sz' v' n' xs') (hne:e≠e') (hg:W.grownBy W' v'.ownBlock):W'.ownsRow b e sz v n xs:=by
 refine own_other h fun k hk=>?_
 rcases h.2 with ⟨rfl,_⟩ | ⟨g0,cap,cur,rfl,h3,h4,_⟩
 ·simp [Value.ownBlock] at hk
 ·simp [Value.ownBlock] at hk;subst hk;exact hg.block _ (Array.getElem?_eq_some_iff.1 h4).1 (own_type h' h4 hne)
section
variable {w W W':World} {R g K A n0:Nat} {p p':Nat×Bool} {s:ByteArray} {e f:Int} {vL vJ v':Value} {L:List Int} {J:List (Int×Int)}
theorem RS.num (h:RS w W R g K A n0 p s e f vL vJ L J) (hr:Rr W' g p'.1 s) (ht:TkAt W' K g p'.2) (hk:Bt.Kept (fun k=>k=g∨k=K) W W'):RS w W' R g K A n0 p' s e f vL vJ L J:=by
 obtain ⟨l1,l2,l3,l4⟩:=h.lt;obtain ⟨m1,m2,m3,m4⟩:=h.le;have a1:A≠g:=block_ne h.rc h.rr.blk (by decide);have a2:A≠K:=block_ne h.rc h.tk (by decide);have r1:R≠g:=block_ne h.rs h.rr.blk (by decide);have r2:R≠K:=block_ne h.rs h.tk (by decide);have far:∀k,n0≤k→k<W.heap.size→W'.heap[k]? =W.heap[k]? :=fun k hk0 hk1=>hk.block k hk1 (by omega)
 exact ⟨hr,ht,(hk.block A (Array.getElem?_eq_some_iff.1 h.rc).1 (by omega)).trans h.rc,(hk.block R (Array.getElem?_eq_some_iff.1 h.rs).1 (by omega)).trans h.rs,Rs.owns_block h.rl far,Rs.owns_block h.rj far,h.bel.trans (hk.below h.bel.size (fun k hk=>by omega)),h.ne,h.le,h.lt,Nat.le_trans h.sz hk.size⟩
theorem RS.later (h:RS w W R g K A n0 p s e f vL vJ L J) (hb:Below W.heap.size W W'):RS w W' R g K A n0 p s e f vL vJ L J:=
 ⟨⟨(hb.block g (Array.getElem?_eq_some_iff.1 h.rr.blk).1).trans h.rr.blk,h.rr.le⟩,(hb.block K (Array.getElem?_eq_some_iff.1 h.tk).1).trans h.tk,h.rc.later hb,h.rs.later hb,owns_later h.rl hb,owns_later h.rj hb,h.bel.trans (hb.mono h.bel.size),h.ne,h.le,h.lt,Nat.le_trans h.sz hb.size⟩
theorem RS.set (h:RS w W R g K A n0 p s e f vL vJ L J) (j:Nat) (v:Value) {e' f':Int} {vL' vJ':Value} {L':List Int} {J':List (Int×Int)} (hc:(#[.int .i64 e,.int .i64 f,vL,vJ]:Array Value).setIfInBounds j v=#[.int .i64 e',.int .i64 f',vL',vJ'])
  (hl:W.ownsRow n0 3 1 vL' L'.length (i64s L')) (hj:W.ownsRow n0 165 2 vJ' J'.length (ps J')):RS w (W.setCell ⟨A,j,none⟩ v) R g K A n0 p s e' f' vL' vJ' L' J':=by
 obtain ⟨l1,l2,l3,l4⟩:=h.lt;obtain ⟨m1,m2,m3,m4⟩:=h.le;have a1:g≠A:=Ne.symm (block_ne h.rc h.rr.blk (by decide));have a2:K≠A:=Ne.symm (block_ne h.rc h.tk (by decide));have far:∀k,n0≤k→k<W.heap.size→(W.setCell ⟨A,j,none⟩ v).heap[k]? =W.heap[k]? :=fun k hk0 hk1=>Rt.other_setCell (by omega) _ _
 refine ⟨⟨(Rt.other_setCell a1 _ _).trans h.rr.blk,h.rr.le⟩,(Rt.other_setCell a2 _ _).trans h.tk,?_,(Rt.other_setCell h.ne _ _).trans h.rs,Rs.owns_block hl far,Rs.owns_block hj far,h.bel.setCell (p:=⟨A,j,none⟩) m4 _,h.ne,h.le,h.lt,by simpa using h.sz⟩;have:=Rt.row_setCell h.rc j v;rw [hc] at this;exact this
end
theorem appL {ops:Array Oper} {o:Oper} {a:Act} {w:World} {K:Act→World→Prop} {Q:Exit→Act→World→Prop} {E:Prop} (hw:Region.wanted o (yielded ops a.tmps)=true) (d:Tmp) (hd:o.dst=some d) (s x:Operand)
  (ho:o.op=.call {callee:=.builtin .append,args:=#[s,x],argTypes:=#[39,39]})
  (n0:Nat) (v:Value) (l:List Int) (hs:a.eval s=v) (hown:w.ownsRow n0 3 1 v l.length (i64s l)) (g:Nat) (y:Int) (hx:a.eval x=.slice (some ⟨g,0,none⟩) 1 1)
  (hnews:∀j u,[Value.int .i64 y][j]? =some u→w.cell? ((⟨g,0,none⟩:Addr).add j)=some u) (hl:l.length≤4096) (hb:n0≤w.heap.size)
  (h:∀v' w',w'.ownsRow n0 3 1 v' (l++[y]).length (i64s (l++[y]))→w.grownBy w' v.ownBlock→K (a.put (some d) v') w'):
  if Region.wanted o (yielded ops a.tmps)=true then Oper.wp Tryz.prog o a w K Q else E:=by
 obtain ⟨i0,hi,hz0,hz1,hz2⟩:=info_parts infoInt;rw [if_pos hw];refine wp_append_own w s x 39 ho n0 3 i0 _ 1 8 Tryz.underlying39 hi hz0 hz1 hz2 rfl (by omega) v l.length (i64s l) hs hown ⟨g,0,none⟩ 1 1 [Value.int .i64 y] hx rfl hnews (by simp [Value.oneCell']) (by unfold maxLen;omega) (by omega) hb ?_;intro v' w' h2 h3 h4;rw [hd];refine h v' w' ?_ h3;have e:i64s (l++[y])=i64s l++[Value.int .i64 y]:=by simp [Rs.i64s]
 rw [e,List.length_append];exact h2
theorem infoSeat_parts:∃i,Tryz.prog.info? 165=some i∧i.zero=some (.agg #[.int .i64 0,.int .i64 0])∧i.size=2∧i.bytes=16:=by
 have h:=Rs.infoSeat
 cases hq:Tryz.prog.info? 165 with
 | none=>rw [hq] at h;cases h
 | some i=>
  rw [hq] at h;simp at h;exact ⟨i,rfl,h.1,h.2.1,h.2.2⟩
theorem RS.new (w:World) (s:ByteArray):RS w ((((w.alloc (.cells #[.int .i64 0,.int .i64 0,.slice none 0 0,.slice none 0 0] 94)).alloc (.cells #[.int .i64 0,.string s] 383)).alloc (.cells #[.pointer (some ⟨w.heap.size+1,0,none⟩),.bool false] 367)).alloc (.cells #[.int .i64 0,.int .i64 0,.slice none 0 0,.slice none 0 0] 94))
  w.heap.size (w.heap.size+1) (w.heap.size+2) (w.heap.size+3) (w.heap.size+4) (0,false) s 0 0 (.slice none 0 0) (.slice none 0 0) [] []:=by
 have a1:=heap_alloc_last w (.cells #[.int .i64 0,.int .i64 0,.slice none 0 0,.slice none 0 0] 94);have b1:=below_alloc w (.cells #[.int .i64 0,.int .i64 0,.slice none 0 0,.slice none 0 0] 94);have s1:(w.alloc (.cells #[.int .i64 0,.int .i64 0,.slice none 0 0,.slice none 0 0] 94)).heap.size=w.heap.size+1:=World.size_alloc _ _;generalize w.alloc (.cells #[.int .i64 0,.int .i64 0,.slice none 0 0,.slice none 0 0] 94)=w1 at *;have a2:=heap_alloc_last w1 (.cells #[.int .i64 0,.string s] 383);have b2:=below_alloc w1 (.cells #[.int .i64 0,.string s] 383);have s2:(w1.alloc (.cells #[.int .i64 0,.string s] 383)).heap.size=w1.heap.size+1:=World.size_alloc _ _;generalize w1.alloc (.cells #[.int .i64 0,.string s] 383)=w2 at *;have a3:=heap_alloc_last w2 (.cells #[.pointer (some ⟨w.heap.size+1,0,none⟩),.bool false] 367);have b3:=below_alloc w2 (.cells #[.pointer (some ⟨w.heap.size+1,0,none⟩),.bool false] 367);have s3:(w2.alloc (.cells #[.pointer (some ⟨w.heap.size+1,0,none⟩),.bool false] 367)).heap.size=w2.heap.size+1:=World.size_alloc _ _;generalize w2.alloc (.cells #[.pointer (some ⟨w.heap.size+1,0,none⟩),.bool false] 367)=w3 at *;have a4:=heap_alloc_last w3 (.cells #[.int .i64 0,.int .i64 0,.slice none 0 0,.slice none 0 0] 94);have b4:=below_alloc w3 (.cells #[.int .i64 0,.int .i64 0,.slice none 0 0,.slice none 0 0] 94);have s4:(w3.alloc (.cells #[.int .i64 0,.int .i64 0,.slice none 0 0,.slice none 0 0] 94)).heap.size=w3.heap.size+1:=World.size_alloc _ _;generalize w3.alloc (.cells #[.int .i64 0,.int .i64 0,.slice none 0 0,.slice none 0 0] 94)=w4 at *;have e2:w2.heap.size=w.heap.size+2:=by omega
 have e3:w3.heap.size=w.heap.size+3:=by omega
 have e4:w4.heap.size=w.heap.size+4:=by omega
 rw [s1] at a2;rw [e2] at a3;rw [e3] at a4;refine ⟨⟨?_,Nat.zero_le _⟩,?_,a4,?_,World.ownsRow_nil _ _ _ _,World.ownsRow_nil _ _ _ _,?_,by omega,by omega,by omega,by omega⟩
 ·exact (b4.block _ (by omega)).trans ((b3.block _ (by omega)).trans a2)
 ·exact (b4.block _ (by omega)).trans a3
 ·exact (b4.block _ (by omega)).trans ((b3.block _ (by omega)).trans ((b2.block _ (by omega)).trans a1))
 ·exact ((b1.trans (b2.mono (by omega))).trans (b3.mono (by omega))).trans (b4.mono (by omega))
/- What Read answers. -/
def RdRec (w w':World) (T:List Bool) (r:Ending):Prop:=∃vL vJ,r=.returned (.tuple #[.agg #[.int .i64 (qEp T),.int .i64 (qFr T),vL,vJ],.int .i64 (rdE T)])∧w'.ownsRow w.heap.size 3 1 vL (qLv T).length (i64s (qLv T))∧w'.ownsRow w.heap.size 165 2 vJ (qJn T).length (ps (qJn T))∧Below w.heap.size w w'
theorem RdRec.no {w w':World} {T:List Bool} (h:okR T=false) (hb:Below w.heap.size w w'):RdRec w w' T (.returned (.tuple #[.agg rz,.int .i64 12])):=by
 refine ⟨.slice none 0 0,.slice none 0 0,?_,?_,?_,hb⟩
 ·unfold qEp qFr rdE;rw [h];rfl
 ·unfold qLv;rw [h];exact World.ownsRow_nil _ _ _ _
 ·unfold qJn;rw [h];exact World.ownsRow_nil _ _ _ _
theorem own_base {W:World} {b b':Nat} {e:TypeId} {sz:Nat} {v:Value} {n:Nat} {xs:List Value} (h:W.ownsRow b e sz v n xs) (hb:b'≤b):W.ownsRow b' e sz v n xs:=by
 obtain ⟨q1,q2⟩:=h;refine ⟨q1,?_⟩;rcases q2 with q2 | ⟨g,cap,cur,rfl,h3,r⟩
 ·exact .inl q2
 ·exact .inr ⟨g,cap,cur,rfl,by omega,r⟩
theorem RdRec.yes {w w':World} {T:List Bool} {vL vJ:Value} {n0:Nat} (h:okR T=true) (hl:w'.ownsRow n0 3 1 vL (rLv T).length (i64s (rLv T))) (hj:w'.ownsRow n0 165 2 vJ (rJn T).length (ps (rJn T))) (hn:w.heap.size≤n0) (hb:Below w.heap.size w w'):RdRec w w' T (.returned (.tuple #[.agg #[.int .i64 (rEp T),.int .i64 (rFr T),vL,vJ],.int .i64 0])):=by
 refine ⟨vL,vJ,?_,?_,?_,hb⟩
 ·unfold qEp qFr rdE;rw [h];rfl
 ·unfold qLv;rw [h];exact own_base hl hn
 ·unfold qJn;rw [h];exact own_base hj hn
end Go.Proofs.YtoimkngkcliinaaGreatDoor.Rc
