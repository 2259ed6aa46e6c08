/- RcK, RcS, joined. -/
import Derived.Test.YtanaapfobpgibaaGreatDoorJRcE
open Go.Proofs.Tryz
set_option maxHeartbeats 2000000
namespace Go.Proofs.YtanaapfobpgibaaGreatDoor.Rc
open Go.RowKit Go.Maps Go.Great
open Rs (bM cell_later ps Tb cq ar ah aP iW)
set_option linter.unusedVariables false
set_option linter.unusedSimpArgs false
/- The people of a list of seats. -/
variable {w:World} {B:Nat} {v0 v1:Value}
def ws (J:List (Int×Int)):List Int:=J.map (·.1)
@[simp] theorem kH (J:List (Int×Int)):(ws J).length=J.length:=by simp [ws]
theorem SQ {J:List (Int×Int)} {k:Nat} (h:k<J.length):ws (J.take (k+1))=ws (J.take k)++[(J.getD k (0,0)).1]:=by rw [lA (0,0) h];simp [ws]
def B2 (w:World) (B:Nat) (v0 v1:Value):Prop:=w.heap[B]? =some (.cells #[v0,v1] 43 (0,0))
theorem B2.cells (h:B2 w B v0 v1):w.cell? ⟨B,0,none⟩=some v0∧w.cell? ⟨B,1,none⟩=some v1:=⟨cell_of_row w B 0 _ _ _ h,cell_of_row w B 1 _ _ _ h⟩
theorem B2.later {w':World} (h:B2 w B v0 v1) (hb:Below w.heap.size w w'):B2 w' B v0 v1:=(hb.block B (Array.getElem?_eq_some_iff.1 h).1).trans h
theorem Ph:(prog.info? 43).map (·.size)=some 2:=by kernel_rfl
theorem Fa {fn:Func} {p:Tmp} (hf:fn.results=#[.cell p 43]) (tmps:Array Value) (W:World) (B:Nat) (v0 v1:Value) (hp:tmps[p]? =some (.pointer (some ⟨B,0,none⟩))) (hb:B2 W B v0 v1):
  (results fn tmps).run prog W=.ok (.agg #[v0,v1]) W:=by
 have h:=run_loadVar_row W B _ 43 _ _ _ hb underlying43 rfl Ph;simp [results,hf,hp,asAddr,h]
theorem ZE (a b:Option Addr) (l m i j:Nat):(#[.slice a l i,.slice b m j]:Array Value).all (·.oneCell')=true:=by simp [Value.oneCell']
/- The batch that is gathered: its box A; the record's box C; R: any other place. -/
structure BG (w W:World) (C A n0:Nat) (rc:Array Value) (v0 v:Value) (l:List Int):Prop where
 rc:bh W C rc
 bt:B2 W A v0 v
 row:W.ownsRow n0 3 1 v l.length (cq l)
 aK:Below w.heap.size w W
 lt:C<n0∧A<n0
 le:w.heap.size≤A
 sz:n0≤W.heap.size
theorem BG.later {w W W':World} {C A n0:Nat} {rc:Array Value} {v0 v:Value} {l:List Int} (h:BG w W C A n0 rc v0 v l) (hb:Below W.heap.size W W'):BG w W' C A n0 rc v0 v l:=
 ⟨h.rc.later hb,h.bt.later hb,ar h.row hb,h.aK.trans (hb.mono h.aK.size),h.lt,h.le,Nat.le_trans h.sz hb.size⟩
theorem BG.app {W W':World} {C A n0:Nat} {rc:Array Value} {v v':Value} {l:List Int} {y:Int} (h:BG w W C A n0 rc v0 v l) (hown:W'.ownsRow n0 3 1 v' (l++[y]).length (cq (l++[y]))) (hg:W.grownBy W' v.ownBlock) (X:Nat→Prop) (hX:∀k,X k→k<n0):
  B2 W' A v0 v∧BG w (W'.setCell ⟨A,1,none⟩ v') C A n0 rc v0 v' (l++[y])∧∀k,X k→k≠A→(W'.setCell ⟨A,1,none⟩ v').heap[k]? =W.heap[k]? :=by
 obtain ⟨l1,l2⟩:=h.lt;have hle:=h.le;have blk:∀k,k<n0→W'.heap[k]? =W.heap[k]? :=fun k hk=>hg.block k (by have:=h.sz;omega) (Rs.b9 h.row hk)
 have hbt:B2 W' A v0 v:=(blk _ l2).trans h.bt;have far:∀k,n0≤k→k<W'.heap.size→(W'.setCell ⟨A,1,none⟩ v').heap[k]? =W'.heap[k]? :=fun k IP mj=>Rt.au (by omega) _ _
 refine ⟨hbt,⟨(Rt.au (ay h.rc h.bt (by decide)) _ _).trans ((blk _ l1).trans h.rc),Rt.aO hbt 1 v',Rs.aY hown far,?_,h.lt,h.le,?_⟩,fun k hk hne=>(Rt.au hne _ _).trans (blk k (hX k hk))⟩
 ·refine Below.setCell (p:=⟨A,1,none⟩) ?_ hle _
  exact Below.grown h.aK hg h.aK.size fun j hj=>by
   rcases Nat.lt_or_ge j n0 with hlt | BN
   ·exact absurd hj.symm (Rs.b9 h.row hlt)
   ·omega
 ·have:=hg.size;have:=h.sz;simp;omega
set_option maxRecDepth 100000 in
theorem D4 (e f:Int) (aL aJ:Option Addr) (cL cJ:Nat) (L:List Int) (J:List (Int×Int)) (w:World) (rJ:oQ w aJ J) (lJ:J.length * 16≤140737488351232):
  Calls prog 135 #[.agg #[.int .i64 e,.int .i64 f,.slice aL L.length cL,.slice aJ J.length cJ]] w fun r w'=>∃v,r=.returned (.agg #[.slice aL L.length cL,v])∧w'.ownsRow w.heap.size 3 1 v J.length (cq (ws J))∧Below w.heap.size w w':=by
 obtain ⟨nL,ru⟩:∃n,L.length=n:=⟨_,rfl⟩;obtain ⟨nJ,ow⟩:∃n,J.length=n:=⟨_,rfl⟩;have lu:Hid (J.length=nJ):=ow;rw [ow] at lJ;rw [ru,ow];clear ru ow;have h1:=bh.new w #[.int .i64 e,.int .i64 f,.slice aL nL cL,.slice aJ nJ cJ];have b1:=aa w (.cells #[.int .i64 e,.int .i64 f,.slice aL nL cL,.slice aJ nJ cJ] 70);have s1:(w.alloc (.cells #[.int .i64 e,.int .i64 f,.slice aL nL cL,.slice aJ nJ cJ] 70)).heap.size=w.heap.size+1:=World.size_alloc _ _;have ade:∃w1,w.alloc (.cells #[.int .i64 e,.int .i64 f,.slice aL nL cL,.slice aJ nJ cJ] 70)=w1:=⟨_,rfl⟩;obtain ⟨w1,zg⟩:=ade;rw [zg] at h1 b1 s1;have h2:B2 (w1.alloc (.cells #[.slice none 0 0,.slice none 0 0] 43)) w1.heap.size (.slice none 0 0) (.slice none 0 0):=heap_alloc_last w1 _;have b2:=aa w1 (.cells #[.slice none 0 0,.slice none 0 0] 43);have s2:(w1.alloc (.cells #[.slice none 0 0,.slice none 0 0] 43)).heap.size=w1.heap.size+1:=World.size_alloc _ _;obtain ⟨w2,hw2⟩:∃w2,w1.alloc (.cells #[.slice none 0 0,.slice none 0 0] 43)=w2:=⟨_,rfl⟩;rw [hw2] at h2 b2 s2;have h3:B2 (w2.alloc (.cells #[.slice aL nL cL,.slice none 0 0] 43)) w2.heap.size (.slice aL nL cL) (.slice none 0 0):=heap_alloc_last w2 _;have b3:=aa w2 (.cells #[.slice aL nL cL,.slice none 0 0] 43);have s3:(w2.alloc (.cells #[.slice aL nL cL,.slice none 0 0] 43)).heap.size=w2.heap.size+1:=World.size_alloc _ _
 have hG:BG w (w2.alloc (.cells #[.slice aL nL cL,.slice none 0 0] 43)) w.heap.size (w.heap.size+2) (w.heap.size+3) #[.int .i64 e,.int .i64 f,.slice aL nL cL,.slice aJ nJ cJ] (.slice aL nL cL) (.slice none 0 0) []:=
  ⟨(h1.later b2).later b3,by rw [show w.heap.size+2=w2.heap.size by omega];exact h3,World.ownsRow_nil _ _ _ _,(b1.trans (b2.mono (by omega))).trans (b3.mono (by omega)),⟨by omega,by omega⟩,by omega,by omega⟩
 have hR:B2 (w2.alloc (.cells #[.slice aL nL cL,.slice none 0 0] 43)) (w.heap.size+1) (.slice none 0 0) (.slice none 0 0):=by
  have:=h2.later b3;rw [s1] at this;exact this
 subst hw2;subst zg;clear h1 b1 s1 h2 b2 s2 h3 b3 s3;go_enter func135,ntmps135;go_upto_region 2 with (fail)
 generalize ((w.alloc (.cells #[.int .i64 e,.int .i64 f,.slice aL nL cL,.slice aJ nJ cJ] 70)).alloc (.cells #[.slice none 0 0,.slice none 0 0] 43)).alloc (.cells #[.slice aL nL cL,.slice none 0 0] 43)=w3 at *;have rB:Hid (w.heap.size+1<w.heap.size+3∧w.heap.size+1≠w.heap.size+2∧w.heap.size≤w.heap.size+1∧w.heap.size≤w.heap.size+3):=by unfold Hid;omega
 obtain ⟨n0,gZ⟩:∃n,w.heap.size+3=n:=⟨_,rfl⟩;obtain ⟨A,hA⟩:∃n,w.heap.size+2=n:=⟨_,rfl⟩;obtain ⟨R,Wy⟩:∃n,w.heap.size+1=n:=⟨_,rfl⟩;obtain ⟨C,hC⟩:∃n,w.heap.size=n:=⟨_,rfl⟩;have W_:Hid (w.heap.size=C):=hC;rw [gZ,hA,Wy,hC] at rB;rw [gZ,hA,hC] at hG;rw [Wy] at hR;rw [hA,Wy,hC];clear gZ hA Wy hC;obtain ⟨r0,r1,r2,r3⟩:=hG.rc.cells;obtain ⟨ii,hii,hi0,hi1,PS⟩:=info_parts iW;have HG:Hid (BG w w3 C A n0 #[.int .i64 e,.int .i64 f,.slice aL nL cL,.slice aJ nJ cJ] (.slice aL nL cL) (.slice none 0 0) (ws (J.take 0))):=hG;have HR:Hid (B2 w3 R (.slice none 0 0) (.slice none 0 0)):=hR;clear hG hR;go_wp2_with fail
 go_loopw [12] (fun i wx=>∃k:Nat,k≤nJ∧i=.int .i64 (k:Int)∧B2 wx R (.slice none 0 0) (.slice none 0 0)∧∃v,BG w wx C A n0 #[.int .i64 e,.int .i64 f,.slice aL nL cL,.slice aJ nJ cJ] (.slice aL nL cL) v (ws (J.take k))) (fun i _=>nJ - (intOf i).toNat)
 case atStart=>exact ⟨0,by omega,rfl,HR.out,_,HG.out⟩
 case round=>
  obtain ⟨k,hk,rfl,hR,v,hG⟩:=hrel;obtain ⟨a1,k1,rfl⟩:=ah hG.row;have HLEN:Hid ((ws (J.take k)).length=k):=by unfold Hid;rw [kH,List.length_take,lu.out];omega
  clear HG HR r0 r1 r2 r3;by_cases cE:k<nJ
  ·have Wt:k<J.length:=by rw [lu.out];exact cE
   obtain ⟨b,o,rfl,c0,c1⟩:=rJ k Wt;have c0:=cell_later hG.aK c0;have c1:=cell_later hG.aK c1;have i1:(0:Int)≤(k:Int):=by omega
   have i2:(k:Int)<(nJ:Int):=by omega
   have HS:Hid (ws (J.take (k+1))=ws (J.take k)++[(J.getD k (0,0)).1]):=SQ Wt;generalize (J.getD k (0,0)).1=x at *;generalize (J.getD k (0,0)).2=y at *;obtain ⟨l,hl⟩:∃l,ws (J.take k)=l:=⟨_,rfl⟩;rw [hl] at HS HLEN hG;clear hl rJ Wt;have Dn:pR (wr.alloc (.cells #[.int .i64 x,.int .i64 y] 113)) wr.heap.size x y:=heap_alloc_last wr _;have Dl:=aa wr (.cells #[.int .i64 x,.int .i64 y] 113);have Qa:=hG.later Dl;have hRa:=hR.later Dl;clear hG hR Dl;go_upto_region 5 with (fail)
   generalize wr.alloc (.cells #[.int .i64 x,.int .i64 y] 113)=wa at *;generalize wr.heap.size=S at *;obtain ⟨s0,s1⟩:=Dn.cells;obtain ⟨d0,d1⟩:=Qa.bt.cells;have hrow:=Qa.row;have hsz:=Qa.sz;have Xg:Hid (BG w wa C A n0 #[.int .i64 e,.int .i64 f,.slice aL nL cL,.slice (some ⟨b,o,none⟩) nJ cJ] (.slice aL nL cL) (.slice a1 l.length k1) l):=Qa;have HRa:Hid (B2 wa R (.slice none 0 0) (.slice none 0 0)):=hRa;have hlen:l.length≤8796093022208:=by have:=HLEN.out;omega
   clear Qa hRa Dn c0 c1
   have HZ:Hid (∀v' W',(wa.alloc (.cells #[.int .i64 x] 3)).grownBy W' (Value.slice a1 l.length k1).ownBlock→W'.ownsRow n0 3 1 v' (l.length+1) (cq l++[.int .i64 x])→B2 W' A (.slice aL nL cL) (.slice a1 l.length k1)∧BG w (W'.setCell ⟨A,1,none⟩ v') C A n0 #[.int .i64 e,.int .i64 f,.slice aL nL cL,.slice (some ⟨b,o,none⟩) nJ cJ] (.slice aL nL cL) v' (l++[x])∧B2 (W'.setCell ⟨A,1,none⟩ v') R (.slice none 0 0) (.slice none 0 0)):=fun v' W' hg ho=>by
    have hb:=aa wa (.cells #[.int .i64 x] 3);have e:cq (l++[x])=cq l++[Value.int .i64 x]:=by simp [Rs.cq]
    obtain ⟨q1,q2,q3⟩:=(Xg.out.later hb).app (y:=x) (v':=v') (by rw [e,List.length_append];exact ho) hg (fun k=>k=R) (fun k hk=>by have:=rB.out;omega);exact ⟨q1,q2,(q3 R rfl rB.out.2.1).trans (HRa.out.later hb)⟩
   go_wp2_with (at_builtin;(refine wpList_append_own _ rfl _ _ 41 rfl n0 3 ii (.int .i64 0) 1 8 underlying41 hii hi0 hi1 PS rfl (by decide) (.slice a1 l.length k1) l.length (cq l) rfl (hrow.alloc _) ⟨wa.heap.size,0,none⟩ 1 1 [.int .i64 x] rfl rfl (bD _ _ _) (by simp [Value.oneCell']) (by unfold maxLen;omega) (by omega) (by simp;omega) ?_);intro v' w7 hown' pY _;obtain ⟨a2,k2,rfl⟩:=ah hown';have HO7:Hid (w7.ownsRow n0 3 1 (.slice a2 (l.length+1) k2) (l.length+1) (cq l++[.int .i64 x])):=hown';have EJ:Hid ((wa.alloc (.cells #[.int .i64 x] 3)).grownBy w7 (Value.slice a1 l.length k1).ownBlock):=pY;obtain ⟨z0,z1⟩:=(HZ.out _ _ pY hown').1.cells;have zf:=Rt.ax (HZ.out _ _ pY hown').1 1;clear hown' pY)
   have Mn:Hid (BG w (w7.setCell ⟨A,1,none⟩ (.slice a2 (l.length+1) k2)) C A n0 #[.int .i64 e,.int .i64 f,.slice aL nL cL,.slice (some ⟨b,o,none⟩) nJ cJ] (.slice aL nL cL) (.slice a2 (l.length+1) k2) (l++[x])∧B2 (w7.setCell ⟨A,1,none⟩ (.slice a2 (l.length+1) k2)) R (.slice none 0 0) (.slice none 0 0)):=(HZ.out _ _ EJ.out HO7.out).2;go_roundw
   case rel=>exact ⟨k+1,by omega,by go_num,Mn.out.2,_,by rw [HS.out];exact Mn.out.1⟩
   case measure=>simp [intOf];omega
  ·have iX:decide ((k:Int)<(nJ:Int))=false:=by simp;omega
   have etk:J.take k=J:=List.take_of_length_le (by rw [lu.out];omega);rw [etk] at hG HLEN;clear etk;obtain ⟨d0,d1⟩:=hG.bt.cells;have HG:Hid (BG w wr C A n0 #[.int .i64 e,.int .i64 f,.slice aL nL cL,.slice aJ nJ cJ] (.slice aL nL cL) (.slice a1 (ws J).length k1) (ws J)):=hG;have HWJ:Hid ((ws J).length=nJ):=by unfold Hid;rw [kH,lu.out]
   have hst:∀ds:Array Value,(wr.setRow R ds).ownsRow n0 3 1 (.slice a1 (ws J).length k1) (ws J).length (cq (ws J)):=fun ds=>aP hG.row hR (by decide) ds
   have HST:Hid _:=hst;rw [HWJ.out] at d1;clear hG hst;go_wp2_with (refine gN Ph (cs:=#[.slice none 0 0,.slice none 0 0]) rfl hR #[.slice aL nL cL,.slice a1 nJ k1] rfl (ZE _ _ _ _ _ _) rfl _ _ rfl rfl rfl ?_)
   refine bodyPost_ret (Fa (p:=2) rfl _ _ R (.slice aL nL cL) (.slice a1 nJ k1) rfl (Rt.ai hR _)) rfl ?_;refine ⟨_,rfl,?_,Rt.ag (by have:=rB.out;have:=W_.out;omega) HG.out.aK _⟩;have h:=HST.out #[.slice aL nL cL,.slice a1 nJ k1];rw [HWJ.out] at h;exact Rs.aV h (by have:=rB.out;have:=W_.out;omega)
open Go.RowKit Go.Maps
open Rs (bM cell_later)
variable {α:Type} {k:Nat}
theorem Hu {l m:List α} (d:α) (hl:k<l.length) (hm:k<m.length) (h:l.take k=m.take k) (he:l.getD k d=m.getD k d):l.take (k+1)=m.take (k+1):=by rw [lA d hl,lA d hm,h,he]
theorem Qi {l m:List α} (d:α) (he:l.getD k d≠m.getD k d):l≠m:=fun h=>he (by rw [h])
theorem qU (w:World) (q n:Nat):∃m,(w.drewN q).drewN n=w.drewN m:=⟨q+n,by simp [World.drewN,Nat.add_assoc]⟩
set_option maxRecDepth 100000 in
theorem U0 (a a':Option Addr) (c c':Nat) (l m:List Int) (w:World) (hl:l.length<4611686018427387904) (hm:m.length<4611686018427387904) (h1:bM w a l) (h2:bM w a' m):
  Calls prog 189 #[.slice a l.length c,.slice a' m.length c'] w fun e w'=>e=.returned (.bool (decide (l=m)))∧Below w.heap.size w w':=by
 by_cases BM:l.length=m.length
 ·have HM:Hid (m.length=l.length):=BM.symm;rw [←BM];clear BM;go_enter func189,ntmps189;go_wp2_with fail
  go_loopw [13] (fun i wx=>∃k:Nat,k≤l.length∧i=.int .i64 (k:Int)∧l.take k=m.take k∧∃q,wx=w.drewN q) (fun i _=>l.length - (intOf i).toNat)
  case atStart=>exact ⟨0,by omega,rfl,rfl,0,rfl⟩
  case round=>
   obtain ⟨k,hk,rfl,jo,q,rfl⟩:=hrel;have rA:Hid (l.take k=m.take k):=jo;clear jo;by_cases cE:k<l.length
   ·have YM:k<m.length:=by rw [HM.out];exact cE
    obtain ⟨b,o,rfl,c0⟩:=h1 k cE;obtain ⟨b',o',rfl,d0⟩:=h2 k YM;have e0:=cell_later (bj w q) c0;have f0:=cell_later (bj w q) d0;have i1:(0:Int)≤(k:Int):=by omega
    have i2:(k:Int)<(l.length:Int):=by omega
    have HQ:Hid (∀n,∃m,(w.drewN q).drewN n=w.drewN m):=fun n=>qU w q n
    have HB:Hid (∀n,Below w.heap.size w ((w.drewN q).drewN n)):=fun n=>by obtain ⟨m,e⟩:=qU w q n;rw [e];exact bj w m
    have HX:Hid (l.getD k 0=m.getD k 0→l.take (k+1)=m.take (k+1)):=fun h=>Hu 0 cE YM rA.out h
    have HY:Hid (l.getD k 0≠m.getD k 0→decide (l=m)=false):=fun h=>decide_eq_false (Qi 0 h)
    have rB:Hid (k<l.length∧l.length<4611686018427387904):=⟨cE,hl⟩;generalize l.getD k 0=x at *;generalize m.getD k 0=y at *;generalize w.drewN q=wq at *;clear c0 d0 h1 h2 rA YM;by_cases AG:x=y
    ·subst AG;have HX2:Hid (l.take (k+1)=m.take (k+1)):=HX.out rfl;go_wp2_with fail
     go_quiet (fail)
     go_wp2_with fail
     go_roundw
     case rel=>
      obtain ⟨m',Lj⟩:=HQ.out nq;exact ⟨k+1,by have:=rB.out;omega,by go_num,HX2.out,m',Lj⟩
     case measure=>simp [intOf];have:=rB.out;omega
    ·have Z':Hid (decide (l=m)=false):=HY.out AG;have hne:(x !=y)=true:=by simpa using AG
     clear HX HY;go_wp2_with fail
     go_quiet (fail)
     go_wp2_with fail
     go_ret;exact ⟨ae Z'.out.symm,HB.out _⟩
   ·have iX:decide ((k:Int)<(l.length:Int))=false:=by simp;omega
    have HE:Hid (decide (l=m)=true):=decide_eq_true (by
     have h:=rA.out
     rwa [List.take_of_length_le (by omega),List.take_of_length_le (by rw [HM.out];omega)] at h)
    go_wp2_with fail
    go_ret;exact ⟨ae HE.out.symm,bj w q⟩
 ·have HE:Hid (decide (l=m)=false):=decide_eq_false (fun h=>BM (by rw [h]));have hne:(((l.length:Nat):Int) !=((m.length:Nat):Int))=true:=by simp;omega
  have Um:(l.length !=m.length)=true:=by simpa using BM
  clear h1 h2;generalize l.length=n at *;generalize m.length=n' at *;go_enter func189,ntmps189;go_wp2_with fail
  go_ret;exact ⟨ae HE.out.symm,Below.refl _ _⟩
set_option maxRecDepth 100000 in
theorem UZ (a a':Option Addr) (c c':Nat) (l m:List (Int×Int)) (w:World) (hl:l.length<4611686018427387904) (hm:m.length<4611686018427387904) (h1:oQ w a l) (h2:oQ w a' m):
  Calls prog 190 #[.slice a l.length c,.slice a' m.length c'] w fun e w'=>e=.returned (.bool (decide (l=m)))∧Below w.heap.size w w':=by
 by_cases BM:l.length=m.length
 ·have HM:Hid (m.length=l.length):=BM.symm;rw [←BM];clear BM;go_enter func190,ntmps190;go_wp2_with fail
  go_loopw [13] (fun i wx=>∃k:Nat,k≤l.length∧i=.int .i64 (k:Int)∧l.take k=m.take k∧∃q,wx=w.drewN q) (fun i _=>l.length - (intOf i).toNat)
  case atStart=>exact ⟨0,by omega,rfl,rfl,0,rfl⟩
  case round=>
   obtain ⟨k,hk,rfl,jo,q,rfl⟩:=hrel;have rA:Hid (l.take k=m.take k):=jo;clear jo;by_cases cE:k<l.length
   ·have YM:k<m.length:=by rw [HM.out];exact cE
    obtain ⟨b,o,rfl,c0,c1⟩:=h1 k cE;obtain ⟨b',o',rfl,d0,d1⟩:=h2 k YM;have e0:=cell_later (bj w q) c0;have f0:=cell_later (bj w q) d0;have e1:=cell_later (bj w q) c1;have f1:=cell_later (bj w q) d1;have i1:(0:Int)≤(k:Int):=by omega
    have i2:(k:Int)<(l.length:Int):=by omega
    have HQ:Hid (∀n,∃m,(w.drewN q).drewN n=w.drewN m):=fun n=>qU w q n
    have HB:Hid (∀n,Below w.heap.size w ((w.drewN q).drewN n)):=fun n=>by obtain ⟨m,e⟩:=qU w q n;rw [e];exact bj w m
    have HX:Hid (l.getD k (0,0)=m.getD k (0,0)→l.take (k+1)=m.take (k+1)):=fun h=>Hu (0,0) cE YM rA.out h
    have HY:Hid (l.getD k (0,0)≠m.getD k (0,0)→decide (l=m)=false):=fun h=>decide_eq_false (Qi (0,0) h)
    have rB:Hid (k<l.length∧l.length<4611686018427387904):=⟨cE,hl⟩;generalize l.getD k (0,0)=x at *;generalize m.getD k (0,0)=y at *;generalize w.drewN q=wq at *;obtain ⟨x1,x2⟩:=x;obtain ⟨y1,y2⟩:=y;dsimp only at e0 e1 f0 f1;clear c0 d0 c1 d1 h1 h2 rA YM;by_cases AG:x1=y1
    ·subst AG;by_cases AG:x2=y2
     ·subst AG;have HX2:Hid (l.take (k+1)=m.take (k+1)):=HX.out rfl;go_wp2_with fail
      go_quiet (fail)
      go_wp2_with fail
      go_roundw
      case rel=>
       obtain ⟨m',Lj⟩:=HQ.out nq;exact ⟨k+1,by have:=rB.out;omega,by go_num,HX2.out,m',Lj⟩
      case measure=>simp [intOf];have:=rB.out;omega
     ·have Z':Hid (decide (l=m)=false):=HY.out (by simpa using AG);have hne:(x2 !=y2)=true:=by simpa using AG
      have Um:(x2==y2)=false:=by simpa using AG
      have ac6:decide (x2=y2)=false:=by simpa using AG
      clear HX HY;go_wp2_with fail
      go_quiet (fail)
      go_wp2_with fail
      go_ret;exact ⟨ae Z'.out.symm,HB.out _⟩
    ·have Z':Hid (decide (l=m)=false):=HY.out (by simp [AG]);have hne:(x1 !=y1)=true:=by simpa using AG
     have Um:(x1==y1)=false:=by simpa using AG
     have ac6:decide (x1=y1)=false:=by simpa using AG
     clear HX HY;go_wp2_with fail
     go_quiet (fail)
     go_wp2_with fail
     go_ret;exact ⟨ae Z'.out.symm,HB.out _⟩
   ·have iX:decide ((k:Int)<(l.length:Int))=false:=by simp;omega
    have HE:Hid (decide (l=m)=true):=decide_eq_true (by
     have h:=rA.out
     rwa [List.take_of_length_le (by omega),List.take_of_length_le (by rw [HM.out];omega)] at h)
    go_wp2_with fail
    go_ret;exact ⟨ae HE.out.symm,bj w q⟩
 ·have HE:Hid (decide (l=m)=false):=decide_eq_false (fun h=>BM (by rw [h]));have hne:(((l.length:Nat):Int) !=((m.length:Nat):Int))=true:=by simp;omega
  have Um:(l.length !=m.length)=true:=by simpa using BM
  clear h1 h2;generalize l.length=n at *;generalize m.length=n' at *;go_enter func190,ntmps190;go_wp2_with fail
  go_ret;exact ⟨ae HE.out.symm,Below.refl _ _⟩
def Kq (e f:Int) (L:List Int) (J:List (Int×Int)) (e' f':Int) (L':List Int) (J':List (Int×Int)):Bool:=decide (e=e')&&decide (f=f')&&decide (L=L')&&decide (J=J')
theorem Tm {e f:Int} {L:List Int} {J:List (Int×Int)} {e' f':Int} {L':List Int} {J':List (Int×Int)}:Kq e f L J e' f' L' J'=true↔e=e'∧f=f'∧L=L'∧J=J':=by
 simp [Kq,and_assoc]
theorem Nr (e f:Int) (L:List Int) (J:List (Int×Int)):Kq e f L J e f L J=true:=Tm.2 ⟨rfl,rfl,rfl,rfl⟩
set_option maxRecDepth 100000 in
theorem Te (e f e' f':Int) (aL aJ Z1 WY:Option Addr) (cL cJ cL' ZA:Nat) (L L':List Int) (J J':List (Int×Int)) (w:World) (hL:L.length<4611686018427387904) (hL':L'.length<4611686018427387904) (hJ:J.length<4611686018427387904) (hJ':J'.length<4611686018427387904) (rL:bM w aL L) (rJ:oQ w aJ J) (rL':bM w Z1 L') (rJ':oQ w WY J'):
  Calls prog 136 #[.agg #[.int .i64 e,.int .i64 f,.slice aL L.length cL,.slice aJ J.length cJ],.agg #[.int .i64 e',.int .i64 f',.slice Z1 L'.length cL',.slice WY J'.length ZA]] w fun r w'=>r=.returned (.bool (Kq e f L J e' f' L' J'))∧Below w.heap.size w w':=by
 have hb1:=aa w (.cells #[.int .i64 e,.int .i64 f,.slice aL L.length cL,.slice aJ J.length cJ] 70);have hb2:=hb1.alloc hb1.size (.cells #[.int .i64 e',.int .i64 f',.slice Z1 L'.length cL',.slice WY J'.length ZA] 70);have Eh:Hid (Kq e f L J e' f' L' J'=(decide (e=e')&&decide (f=f')&&decide (L=L')&&decide (J=J'))):=rfl;by_cases g1:e=e'
 ·subst g1;by_cases g2:f=f'
  ·subst g2;rw [decide_eq_true rfl,decide_eq_true rfl,Bool.true_and,Bool.true_and] at Eh;have hI:=U0 aL Z1 cL cL' L L' _ hL hL' (rL.later hb2) (rL'.later hb2);have HJJ:Hid (∀W,Below w.heap.size w W→Calls prog 190 #[.slice aJ J.length cJ,.slice WY J'.length ZA] W fun e w'=>e=.returned (.bool (decide (J=J')))∧Below W.heap.size W w'):=fun W hW=>UZ aJ WY cJ ZA J J' W hJ hJ' (rJ.later hW) (rJ'.later hW)
   have h1:=bh.new w #[.int .i64 e,.int .i64 f,.slice aL L.length cL,.slice aJ J.length cJ];have h1':=h1.later (aa _ (.cells #[.int .i64 e,.int .i64 f,.slice Z1 L'.length cL',.slice WY J'.length ZA] 70));have h2:=bh.new (w.alloc (.cells #[.int .i64 e,.int .i64 f,.slice aL L.length cL,.slice aJ J.length cJ] 70)) #[.int .i64 e,.int .i64 f,.slice Z1 L'.length cL',.slice WY J'.length ZA];rw [World.size_alloc] at h2;clear rL rL' rJ rJ' hL hL' hJ hJ' h1 hb1;generalize L.length=nL at *;generalize J.length=nJ at *;generalize L'.length=nL' at *;generalize J'.length=nJ' at *;go_enter func136,ntmps136;go_upto_region 1 with (fail)
   generalize (w.alloc (.cells #[.int .i64 e,.int .i64 f,.slice aL nL cL,.slice aJ nJ cJ] 70)).alloc (.cells #[.int .i64 e,.int .i64 f,.slice Z1 nL' cL',.slice WY nJ' ZA] 70)=w2 at *;obtain ⟨B',hB'⟩:∃B,w.heap.size+1=B:=⟨_,rfl⟩;obtain ⟨B,hB⟩:∃B,w.heap.size=B:=⟨_,rfl⟩;rw [hB'] at h2 ⊢;rw [hB] at h1' ⊢;clear hB hB';obtain ⟨c0,c1,c2,c3⟩:=h1'.cells;obtain ⟨d0,d1,d2,d3⟩:=h2.cells
   cases hq:decide (L=L') with
   | false=>
    rw [hq] at hI Eh;clear hq;go_wp2_with fail
    refine hI.mono ?_;rintro r w3 ⟨rfl,hb3⟩;clear hI c0 c1 c2 c3 d0 d1 d2 d3 h1' h2;have dR:Hid (Below w.heap.size w w3):=hb2.trans (hb3.mono hb2.size);clear hb2 hb3;go_wp2_with fail
    go_ret;exact ⟨ae (by rw [Eh.out];rfl),dR.out⟩
   | true=>
    rw [hq,Bool.true_and] at Eh;rw [hq] at hI;clear hq;go_wp2_with fail
    refine hI.mono ?_;rintro r w3 ⟨rfl,hb3⟩;clear hI c0 c1 c2 c3 d0 d1 d2 d3;obtain ⟨c0,c1,c2,c3⟩:=(h1'.later hb3).cells;obtain ⟨d0,d1,d2,d3⟩:=(h2.later hb3).cells;have dR:Hid (Below w.heap.size w w3):=hb2.trans (hb3.mono hb2.size);have hJJ:=HJJ.out w3 dR.out;obtain ⟨b,hb⟩:∃b,decide (J=J')=b:=⟨_,rfl⟩;rw [hb] at hJJ Eh;clear hb2 hb3 h1' h2 hb;go_wp2_with fail
    refine hJJ.mono ?_;rintro r w4 ⟨rfl,hb4⟩;clear hJJ c0 c1 c2 c3 d0 d1 d2 d3;go_wp2_with fail
    go_ret;exact ⟨ae (by rw [Eh.out]),dR.out.trans (hb4.mono dR.out.size)⟩
  ·have hne:(f==f')=false:=by simpa using g2
   have HE:Hid (Kq e f L J e f' L' J'=false):=by unfold Hid Kq;rw [decide_eq_false g2];simp
   clear rL rL' rJ rJ' g2 Eh;generalize L.length=nL at *;generalize J.length=nJ at *;generalize L'.length=nL' at *;generalize J'.length=nJ' at *;go_enter func136,ntmps136;go_wp2_with fail
   go_ret;exact ⟨ae HE.out.symm,hb2⟩
 ·have hne:(e==e')=false:=by simpa using g1
  have HE:Hid (Kq e f L J e' f' L' J'=false):=by unfold Hid Kq;rw [decide_eq_false g1];rfl
  clear rL rL' rJ rJ' g1 Eh;generalize L.length=nL at *;generalize J.length=nJ at *;generalize L'.length=nL' at *;generalize J'.length=nJ' at *;go_enter func136,ntmps136;go_wp2_with fail
  go_ret;exact ⟨ae HE.out.symm,hb2⟩
end Go.Proofs.YtanaapfobpgibaaGreatDoor.Rc
