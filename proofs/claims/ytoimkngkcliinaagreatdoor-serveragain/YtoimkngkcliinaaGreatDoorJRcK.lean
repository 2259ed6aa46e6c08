/- RcK, RcS, joined. -/
import Derived.Test.YtoimkngkcliinaaGreatDoorJRcE
import Derived.Test.YtoimkngkcliinaaGreatDoorJRcMath
namespace Go.Proofs.YtoimkngkcliinaaGreatDoor.Rc
open Go.RowKit Go.Maps Go.Great
open Rs (RdI cell_later ps Tb i64s owns_later owns_slice owns_type infoInt)
set_option linter.unusedVariables false
set_option linter.unusedSimpArgs false
/- The people of a list of seats. -/
def ws (J:List (Int×Int)):List Int:=J.map (·.1)
@[simp] theorem ws_length (J:List (Int×Int)):(ws J).length=J.length:=by simp [ws]
theorem ws_take {J:List (Int×Int)} {k:Nat} (h:k<J.length):ws (J.take (k+1))=ws (J.take k)++[(J.getD k (0,0)).1]:=by rw [take_nx (0,0) h];simp [ws]
def BxB (w:World) (B:Nat) (v0 v1:Value):Prop:=w.heap[B]? =some (.cells #[v0,v1] 41 (0,0))
theorem BxB.cells {w:World} {B:Nat} {v0 v1:Value} (h:BxB w B v0 v1):w.cell? ⟨B,0,none⟩=some v0∧w.cell? ⟨B,1,none⟩=some v1:=⟨cell_of_row w B 0 _ _ _ h,cell_of_row w B 1 _ _ _ h⟩
theorem BxB.later {w w':World} {B:Nat} {v0 v1:Value} (h:BxB w B v0 v1) (hb:Below w.heap.size w w'):BxB w' B v0 v1:=(hb.block B (Array.getElem?_eq_some_iff.1 h).1).trans h
theorem infoBt:(Tryz.prog.info? 41).map (·.size)=some 2:=by kernel_rfl
theorem results_bt {fn:Func} {p:Tmp} (hf:fn.results=#[.cell p 41]) (tmps:Array Value) (W:World) (B:Nat) (v0 v1:Value) (hp:tmps[p]? =some (.pointer (some ⟨B,0,none⟩))) (hb:BxB W B v0 v1):
  (results fn tmps).run Tryz.prog W=.ok (.agg #[v0,v1]) W:=by
 have h:=run_loadVar_row W B _ 41 _ _ _ hb Tryz.underlying41 rfl infoBt;simp [results,hf,hp,asAddr,h]
theorem bt_one (a b:Option Addr) (l m i j:Nat):(#[.slice a l i,.slice b m j]:Array Value).all (·.oneCell')=true:=by simp [Value.oneCell']
/- The batch that is gathered: its box A; the record's box C; R: any other place. -/
structure BG (w W:World) (C A n0:Nat) (rc:Array Value) (v0 v:Value) (l:List Int):Prop where
 rc:RcAt W C rc
 bt:BxB W A v0 v
 row:W.ownsRow n0 3 1 v l.length (i64s l)
 bel:Below w.heap.size w W
 lt:C<n0∧A<n0
 le:w.heap.size≤A
 sz:n0≤W.heap.size
theorem BG.later {w W W':World} {C A n0:Nat} {rc:Array Value} {v0 v:Value} {l:List Int} (h:BG w W C A n0 rc v0 v l) (hb:Below W.heap.size W W'):BG w W' C A n0 rc v0 v l:=
 ⟨h.rc.later hb,h.bt.later hb,owns_later h.row hb,h.bel.trans (hb.mono h.bel.size),h.lt,h.le,Nat.le_trans h.sz hb.size⟩
theorem BG.app {w W W':World} {C A n0:Nat} {rc:Array Value} {v0 v v':Value} {l:List Int} {y:Int} (h:BG w W C A n0 rc v0 v l) (hown:W'.ownsRow n0 3 1 v' (l++[y]).length (i64s (l++[y]))) (hg:W.grownBy W' v.ownBlock) (X:Nat→Prop) (hX:∀k,X k→k<n0):
  BxB W' A v0 v∧BG w (W'.setCell ⟨A,1,none⟩ v') C A n0 rc v0 v' (l++[y])∧∀k,X k→k≠A→(W'.setCell ⟨A,1,none⟩ v').heap[k]? =W.heap[k]? :=by
 obtain ⟨l1,l2⟩:=h.lt;have hle:=h.le;have blk:∀k,k<n0→W'.heap[k]? =W.heap[k]? :=fun k hk=>hg.block k (by have:=h.sz;omega) (Rs.row_far h.row hk)
 have hbt:BxB W' A v0 v:=(blk _ l2).trans h.bt;have far:∀k,n0≤k→k<W'.heap.size→(W'.setCell ⟨A,1,none⟩ v').heap[k]? =W'.heap[k]? :=fun k hk0 hk1=>Rt.other_setCell (by omega) _ _
 refine ⟨hbt,⟨(Rt.other_setCell (block_ne h.rc h.bt (by decide)) _ _).trans ((blk _ l1).trans h.rc),Rt.row_setCell hbt 1 v',Rs.owns_block hown far,?_,h.lt,h.le,?_⟩,fun k hk hne=>(Rt.other_setCell hne _ _).trans (blk k (hX k hk))⟩
 ·refine Below.setCell (p:=⟨A,1,none⟩) ?_ hle _
  exact Below.grown h.bel hg h.bel.size fun j hj=>by
   rcases Nat.lt_or_ge j n0 with hlt | hge
   ·exact absurd hj.symm (Rs.row_far h.row hlt)
   ·omega
 ·have:=hg.size;have:=h.sz;simp;omega
set_option maxRecDepth 100000 in
set_option maxHeartbeats 2000000 in
theorem batchOf_any (e f:Int) (aL aJ:Option Addr) (cL cJ:Nat) (L:List Int) (J:List (Int×Int)) (w:World) (rJ:RdP w aJ J) (lJ:J.length * 16≤140737488351232):
  Calls Tryz.prog 243 #[.agg #[.int .i64 e,.int .i64 f,.slice aL L.length cL,.slice aJ J.length cJ]] w fun r w'=>∃v,r=.returned (.agg #[.slice aL L.length cL,v])∧w'.ownsRow w.heap.size 3 1 v J.length (i64s (ws J))∧Below w.heap.size w w':=by
 obtain ⟨nL,hnl⟩:∃n,L.length=n:=⟨_,rfl⟩;obtain ⟨nJ,hnj⟩:∃n,J.length=n:=⟨_,rfl⟩;have HNJ:Hid (J.length=nJ):=hnj;rw [hnj] at lJ;rw [hnl,hnj];clear hnl hnj;have h1:=RcAt.new w #[.int .i64 e,.int .i64 f,.slice aL nL cL,.slice aJ nJ cJ];have b1:=below_alloc w (.cells #[.int .i64 e,.int .i64 f,.slice aL nL cL,.slice aJ nJ cJ] 94);have s1:(w.alloc (.cells #[.int .i64 e,.int .i64 f,.slice aL nL cL,.slice aJ nJ cJ] 94)).heap.size=w.heap.size+1:=World.size_alloc _ _;have hgen:∃w1,w.alloc (.cells #[.int .i64 e,.int .i64 f,.slice aL nL cL,.slice aJ nJ cJ] 94)=w1:=⟨_,rfl⟩;obtain ⟨w1,hw1⟩:=hgen;rw [hw1] at h1 b1 s1;have h2:BxB (w1.alloc (.cells #[.slice none 0 0,.slice none 0 0] 41)) w1.heap.size (.slice none 0 0) (.slice none 0 0):=heap_alloc_last w1 _;have b2:=below_alloc w1 (.cells #[.slice none 0 0,.slice none 0 0] 41);have s2:(w1.alloc (.cells #[.slice none 0 0,.slice none 0 0] 41)).heap.size=w1.heap.size+1:=World.size_alloc _ _;obtain ⟨w2,hw2⟩:∃w2,w1.alloc (.cells #[.slice none 0 0,.slice none 0 0] 41)=w2:=⟨_,rfl⟩;rw [hw2] at h2 b2 s2;have h3:BxB (w2.alloc (.cells #[.slice aL nL cL,.slice none 0 0] 41)) w2.heap.size (.slice aL nL cL) (.slice none 0 0):=heap_alloc_last w2 _;have b3:=below_alloc w2 (.cells #[.slice aL nL cL,.slice none 0 0] 41);have s3:(w2.alloc (.cells #[.slice aL nL cL,.slice none 0 0] 41)).heap.size=w2.heap.size+1:=World.size_alloc _ _
 have hG:BG w (w2.alloc (.cells #[.slice aL nL cL,.slice none 0 0] 41)) w.heap.size (w.heap.size+2) (w.heap.size+3) #[.int .i64 e,.int .i64 f,.slice aL nL cL,.slice aJ nJ cJ] (.slice aL nL cL) (.slice none 0 0) []:=
  ⟨(h1.later b2).later b3,by rw [show w.heap.size+2=w2.heap.size by omega];exact h3,World.ownsRow_nil _ _ _ _,(b1.trans (b2.mono (by omega))).trans (b3.mono (by omega)),⟨by omega,by omega⟩,by omega,by omega⟩
 have hR:BxB (w2.alloc (.cells #[.slice aL nL cL,.slice none 0 0] 41)) (w.heap.size+1) (.slice none 0 0) (.slice none 0 0):=by
  have:=h2.later b3;rw [s1] at this;exact this
 subst hw2;subst hw1;clear h1 b1 s1 h2 b2 s2 h3 b3 s3;go_enter Tryz.func243,Tryz.ntmps243;go_upto_region 2 with (fail)
 generalize ((w.alloc (.cells #[.int .i64 e,.int .i64 f,.slice aL nL cL,.slice aJ nJ cJ] 94)).alloc (.cells #[.slice none 0 0,.slice none 0 0] 41)).alloc (.cells #[.slice aL nL cL,.slice none 0 0] 41)=w3 at *;have HLT:Hid (w.heap.size+1<w.heap.size+3∧w.heap.size+1≠w.heap.size+2∧w.heap.size≤w.heap.size+1∧w.heap.size≤w.heap.size+3):=by unfold Hid;omega
 obtain ⟨n0,hn0⟩:∃n,w.heap.size+3=n:=⟨_,rfl⟩;obtain ⟨A,hA⟩:∃n,w.heap.size+2=n:=⟨_,rfl⟩;obtain ⟨R,hRq⟩:∃n,w.heap.size+1=n:=⟨_,rfl⟩;obtain ⟨C,hC⟩:∃n,w.heap.size=n:=⟨_,rfl⟩;have HWC:Hid (w.heap.size=C):=hC;rw [hn0,hA,hRq,hC] at HLT;rw [hn0,hA,hC] at hG;rw [hRq] at hR;rw [hA,hRq,hC];clear hn0 hA hRq hC;obtain ⟨r0,r1,r2,r3⟩:=hG.rc.cells;obtain ⟨ii,hii,hi0,hi1,hi2⟩:=info_parts infoInt;have HG:Hid (BG w w3 C A n0 #[.int .i64 e,.int .i64 f,.slice aL nL cL,.slice aJ nJ cJ] (.slice aL nL cL) (.slice none 0 0) (ws (J.take 0))):=hG;have HR:Hid (BxB w3 R (.slice none 0 0) (.slice none 0 0)):=hR;clear hG hR;go_wp2_with fail
 go_loopw [12] (fun i wx=>∃k:Nat,k≤nJ∧i=.int .i64 (k:Int)∧BxB wx R (.slice none 0 0) (.slice none 0 0)∧∃v,BG w wx C A n0 #[.int .i64 e,.int .i64 f,.slice aL nL cL,.slice aJ nJ cJ] (.slice aL nL cL) v (ws (J.take k))) (fun i _=>nJ - (intOf i).toNat)
 case atStart=>exact ⟨0,by omega,rfl,HR.out,_,HG.out⟩
 case round=>
  obtain ⟨k,hk,rfl,hR,v,hG⟩:=hrel;obtain ⟨a1,k1,rfl⟩:=owns_slice hG.row;have HLEN:Hid ((ws (J.take k)).length=k):=by unfold Hid;rw [ws_length,List.length_take,HNJ.out];omega
  clear HG HR r0 r1 r2 r3;by_cases hkn:k<nJ
  ·have hkJ:k<J.length:=by rw [HNJ.out];exact hkn
   obtain ⟨b,o,rfl,c0,c1⟩:=rJ k hkJ;have c0:=cell_later hG.bel c0;have c1:=cell_later hG.bel c1;have i1:(0:Int)≤(k:Int):=by omega
   have i2:(k:Int)<(nJ:Int):=by omega
   have HS:Hid (ws (J.take (k+1))=ws (J.take k)++[(J.getD k (0,0)).1]):=ws_take hkJ;generalize (J.getD k (0,0)).1=x at *;generalize (J.getD k (0,0)).2=y at *;obtain ⟨l,hl⟩:∃l,ws (J.take k)=l:=⟨_,rfl⟩;rw [hl] at HS HLEN hG;clear hl rJ hkJ;have hSE:SeAt (wr.alloc (.cells #[.int .i64 x,.int .i64 y] 165)) wr.heap.size x y:=heap_alloc_last wr _;have hbA:=below_alloc wr (.cells #[.int .i64 x,.int .i64 y] 165);have hGa:=hG.later hbA;have hRa:=hR.later hbA;clear hG hR hbA;go_upto_region 5 with (fail)
   generalize wr.alloc (.cells #[.int .i64 x,.int .i64 y] 165)=wa at *;generalize wr.heap.size=S at *;obtain ⟨s0,s1⟩:=hSE.cells;obtain ⟨d0,d1⟩:=hGa.bt.cells;have hrow:=hGa.row;have hsz:=hGa.sz;have HGa:Hid (BG w wa C A n0 #[.int .i64 e,.int .i64 f,.slice aL nL cL,.slice (some ⟨b,o,none⟩) nJ cJ] (.slice aL nL cL) (.slice a1 l.length k1) l):=hGa;have HRa:Hid (BxB wa R (.slice none 0 0) (.slice none 0 0)):=hRa;have hlen:l.length≤8796093022208:=by have:=HLEN.out;omega
   clear hGa hRa hSE c0 c1
   have HZ:Hid (∀v' W',(wa.alloc (.cells #[.int .i64 x] 3)).grownBy W' (Value.slice a1 l.length k1).ownBlock→W'.ownsRow n0 3 1 v' (l.length+1) (i64s l++[.int .i64 x])→BxB W' A (.slice aL nL cL) (.slice a1 l.length k1)∧BG w (W'.setCell ⟨A,1,none⟩ v') C A n0 #[.int .i64 e,.int .i64 f,.slice aL nL cL,.slice (some ⟨b,o,none⟩) nJ cJ] (.slice aL nL cL) v' (l++[x])∧BxB (W'.setCell ⟨A,1,none⟩ v') R (.slice none 0 0) (.slice none 0 0)):=fun v' W' hg ho=>by
    have hb:=below_alloc wa (.cells #[.int .i64 x] 3);have e:i64s (l++[x])=i64s l++[Value.int .i64 x]:=by simp [Rs.i64s]
    obtain ⟨q1,q2,q3⟩:=(HGa.out.later hb).app (y:=x) (v':=v') (by rw [e,List.length_append];exact ho) hg (fun k=>k=R) (fun k hk=>by have:=HLT.out;omega);exact ⟨q1,q2,(q3 R rfl HLT.out.2.1).trans (HRa.out.later hb)⟩
   go_wp2_with (at_builtin;(refine wpList_append_own _ rfl _ _ 39 rfl n0 3 ii (.int .i64 0) 1 8 Tryz.underlying39 hii hi0 hi1 hi2 rfl (by decide) (.slice a1 l.length k1) l.length (i64s l) rfl (hrow.alloc _) ⟨wa.heap.size,0,none⟩ 1 1 [.int .i64 x] rfl rfl (cell_row_new _ _ _) (by simp [Value.oneCell']) (by unfold maxLen;omega) (by omega) (by simp;omega) ?_);intro v' w7 hown' hg7 _;obtain ⟨a2,k2,rfl⟩:=owns_slice hown';have HO7:Hid (w7.ownsRow n0 3 1 (.slice a2 (l.length+1) k2) (l.length+1) (i64s l++[.int .i64 x])):=hown';have HG7:Hid ((wa.alloc (.cells #[.int .i64 x] 3)).grownBy w7 (Value.slice a1 l.length k1).ownBlock):=hg7;obtain ⟨z0,z1⟩:=(HZ.out _ _ hg7 hown').1.cells;have zf:=Rt.row_frozen (HZ.out _ _ hg7 hown').1 1;clear hown' hg7)
   have HS8:Hid (BG w (w7.setCell ⟨A,1,none⟩ (.slice a2 (l.length+1) k2)) C A n0 #[.int .i64 e,.int .i64 f,.slice aL nL cL,.slice (some ⟨b,o,none⟩) nJ cJ] (.slice aL nL cL) (.slice a2 (l.length+1) k2) (l++[x])∧BxB (w7.setCell ⟨A,1,none⟩ (.slice a2 (l.length+1) k2)) R (.slice none 0 0) (.slice none 0 0)):=(HZ.out _ _ HG7.out HO7.out).2;go_roundw
   case rel=>exact ⟨k+1,by omega,by go_num,HS8.out.2,_,by rw [HS.out];exact HS8.out.1⟩
   case measure=>simp [intOf];omega
  ·have hkn':decide ((k:Int)<(nJ:Int))=false:=by simp;omega
   have etk:J.take k=J:=List.take_of_length_le (by rw [HNJ.out];omega);rw [etk] at hG HLEN;clear etk;obtain ⟨d0,d1⟩:=hG.bt.cells;have HG:Hid (BG w wr C A n0 #[.int .i64 e,.int .i64 f,.slice aL nL cL,.slice aJ nJ cJ] (.slice aL nL cL) (.slice a1 (ws J).length k1) (ws J)):=hG;have HWJ:Hid ((ws J).length=nJ):=by unfold Hid;rw [ws_length,HNJ.out]
   have hst:∀ds:Array Value,(wr.setRow R ds).ownsRow n0 3 1 (.slice a1 (ws J).length k1) (ws J).length (i64s (ws J)):=fun ds=>owns_type hG.row hR (by decide) ds
   have HST:Hid _:=hst;rw [HWJ.out] at d1;clear hG hst;go_wp2_with (refine stRw infoBt (cs:=#[.slice none 0 0,.slice none 0 0]) rfl hR #[.slice aL nL cL,.slice a1 nJ k1] rfl (bt_one _ _ _ _ _ _) rfl _ _ rfl rfl rfl ?_)
   refine bodyPost_ret (results_bt (p:=2) rfl _ _ R (.slice aL nL cL) (.slice a1 nJ k1) rfl (Rt.heap_setRow_same hR _)) rfl ?_;refine ⟨_,rfl,?_,Rt.setRow_below (by have:=HLT.out;have:=HWC.out;omega) HG.out.bel _⟩;have h:=HST.out #[.slice aL nL cL,.slice a1 nJ k1];rw [HWJ.out] at h;exact Rs.owns_wide h (by have:=HLT.out;have:=HWC.out;omega)
open Go.RowKit Go.Maps
open Rs (RdI cell_later)
theorem take_eq {α:Type} {l m:List α} {k:Nat} (d:α) (hl:k<l.length) (hm:k<m.length) (h:l.take k=m.take k) (he:l.getD k d=m.getD k d):l.take (k+1)=m.take (k+1):=by rw [take_nx d hl,take_nx d hm,h,he]
theorem get_ne {α:Type} {l m:List α} {k:Nat} (d:α) (he:l.getD k d≠m.getD k d):l≠m:=fun h=>he (by rw [h])
theorem dN_trans (w:World) (q n:Nat):∃m,(w.drewN q).drewN n=w.drewN m:=⟨q+n,by simp [World.drewN,Nat.add_assoc]⟩
set_option maxRecDepth 100000 in
set_option maxHeartbeats 400000 in
theorem eqI_any (a a':Option Addr) (c c':Nat) (l m:List Int) (w:World) (hl:l.length<4611686018427387904) (hm:m.length<4611686018427387904) (h1:RdI w a l) (h2:RdI w a' m):
  Calls Tryz.prog 298 #[.slice a l.length c,.slice a' m.length c'] w fun e w'=>e=.returned (.bool (decide (l=m)))∧Below w.heap.size w w':=by
 by_cases hlm:l.length=m.length
 ·have HM:Hid (m.length=l.length):=hlm.symm;rw [←hlm];clear hlm;go_enter Tryz.func298,Tryz.ntmps298;go_wp2_with fail
  go_loopw [13] (fun i wx=>∃k:Nat,k≤l.length∧i=.int .i64 (k:Int)∧l.take k=m.take k∧∃q,wx=w.drewN q) (fun i _=>l.length - (intOf i).toNat)
  case atStart=>exact ⟨0,by omega,rfl,rfl,0,rfl⟩
  case round=>
   obtain ⟨k,hk,rfl,htk,q,rfl⟩:=hrel;have HTK:Hid (l.take k=m.take k):=htk;clear htk;by_cases hkn:k<l.length
   ·have hkm:k<m.length:=by rw [HM.out];exact hkn
    obtain ⟨b,o,rfl,c0⟩:=h1 k hkn;obtain ⟨b',o',rfl,d0⟩:=h2 k hkm;have e0:=cell_later (dn_below w q) c0;have f0:=cell_later (dn_below w q) d0;have i1:(0:Int)≤(k:Int):=by omega
    have i2:(k:Int)<(l.length:Int):=by omega
    have HQ:Hid (∀n,∃m,(w.drewN q).drewN n=w.drewN m):=fun n=>dN_trans w q n
    have HB:Hid (∀n,Below w.heap.size w ((w.drewN q).drewN n)):=fun n=>by obtain ⟨m,e⟩:=dN_trans w q n;rw [e];exact dn_below w m
    have HX:Hid (l.getD k 0=m.getD k 0→l.take (k+1)=m.take (k+1)):=fun h=>take_eq 0 hkn hkm HTK.out h
    have HY:Hid (l.getD k 0≠m.getD k 0→decide (l=m)=false):=fun h=>decide_eq_false (get_ne 0 h)
    have HLT:Hid (k<l.length∧l.length<4611686018427387904):=⟨hkn,hl⟩;generalize l.getD k 0=x at *;generalize m.getD k 0=y at *;generalize w.drewN q=wq at *;clear c0 d0 h1 h2 HTK hkm;by_cases hxy:x=y
    ·subst hxy;have HX2:Hid (l.take (k+1)=m.take (k+1)):=HX.out rfl;go_wp2_with fail
     go_quiet (fail)
     go_wp2_with fail
     go_roundw
     case rel=>
      obtain ⟨m',hm'⟩:=HQ.out nq;exact ⟨k+1,by have:=HLT.out;omega,by go_num,HX2.out,m',hm'⟩
     case measure=>simp [intOf];have:=HLT.out;omega
    ·have HY2:Hid (decide (l=m)=false):=HY.out hxy;have hne:(x !=y)=true:=by simpa using hxy
     clear HX HY;go_wp2_with fail
     go_quiet (fail)
     go_wp2_with fail
     go_ret;exact ⟨ret_bool HY2.out.symm,HB.out _⟩
   ·have hkn':decide ((k:Int)<(l.length:Int))=false:=by simp;omega
    have HE:Hid (decide (l=m)=true):=decide_eq_true (by
     have h:=HTK.out
     rwa [List.take_of_length_le (by omega),List.take_of_length_le (by rw [HM.out];omega)] at h)
    go_wp2_with fail
    go_ret;exact ⟨ret_bool HE.out.symm,dn_below w q⟩
 ·have HE:Hid (decide (l=m)=false):=decide_eq_false (fun h=>hlm (by rw [h]));have hne:(((l.length:Nat):Int)!=((m.length:Nat):Int))=true:=by simp;omega
  have hne2:(l.length !=m.length)=true:=by simpa using hlm
  clear h1 h2;generalize l.length=n at *;generalize m.length=n' at *;go_enter Tryz.func298,Tryz.ntmps298;go_wp2_with fail
  go_ret;exact ⟨ret_bool HE.out.symm,Below.refl _ _⟩
set_option maxRecDepth 100000 in
set_option maxHeartbeats 400000 in
theorem eqS_any (a a':Option Addr) (c c':Nat) (l m:List (Int×Int)) (w:World) (hl:l.length<4611686018427387904) (hm:m.length<4611686018427387904) (h1:RdP w a l) (h2:RdP w a' m):
  Calls Tryz.prog 299 #[.slice a l.length c,.slice a' m.length c'] w fun e w'=>e=.returned (.bool (decide (l=m)))∧Below w.heap.size w w':=by
 by_cases hlm:l.length=m.length
 ·have HM:Hid (m.length=l.length):=hlm.symm;rw [←hlm];clear hlm;go_enter Tryz.func299,Tryz.ntmps299;go_wp2_with fail
  go_loopw [13] (fun i wx=>∃k:Nat,k≤l.length∧i=.int .i64 (k:Int)∧l.take k=m.take k∧∃q,wx=w.drewN q) (fun i _=>l.length - (intOf i).toNat)
  case atStart=>exact ⟨0,by omega,rfl,rfl,0,rfl⟩
  case round=>
   obtain ⟨k,hk,rfl,htk,q,rfl⟩:=hrel;have HTK:Hid (l.take k=m.take k):=htk;clear htk;by_cases hkn:k<l.length
   ·have hkm:k<m.length:=by rw [HM.out];exact hkn
    obtain ⟨b,o,rfl,c0,c1⟩:=h1 k hkn;obtain ⟨b',o',rfl,d0,d1⟩:=h2 k hkm;have e0:=cell_later (dn_below w q) c0;have f0:=cell_later (dn_below w q) d0;have e1:=cell_later (dn_below w q) c1;have f1:=cell_later (dn_below w q) d1;have i1:(0:Int)≤(k:Int):=by omega
    have i2:(k:Int)<(l.length:Int):=by omega
    have HQ:Hid (∀n,∃m,(w.drewN q).drewN n=w.drewN m):=fun n=>dN_trans w q n
    have HB:Hid (∀n,Below w.heap.size w ((w.drewN q).drewN n)):=fun n=>by obtain ⟨m,e⟩:=dN_trans w q n;rw [e];exact dn_below w m
    have HX:Hid (l.getD k (0,0)=m.getD k (0,0)→l.take (k+1)=m.take (k+1)):=fun h=>take_eq (0,0) hkn hkm HTK.out h
    have HY:Hid (l.getD k (0,0)≠m.getD k (0,0)→decide (l=m)=false):=fun h=>decide_eq_false (get_ne (0,0) h)
    have HLT:Hid (k<l.length∧l.length<4611686018427387904):=⟨hkn,hl⟩;generalize l.getD k (0,0)=x at *;generalize m.getD k (0,0)=y at *;generalize w.drewN q=wq at *;obtain ⟨x1,x2⟩:=x;obtain ⟨y1,y2⟩:=y;dsimp only at e0 e1 f0 f1;clear c0 d0 c1 d1 h1 h2 HTK hkm;by_cases hxy:x1=y1
    ·subst hxy;by_cases hxy:x2=y2
     ·subst hxy;have HX2:Hid (l.take (k+1)=m.take (k+1)):=HX.out rfl;go_wp2_with fail
      go_quiet (fail)
      go_wp2_with fail
      go_roundw
      case rel=>
       obtain ⟨m',hm'⟩:=HQ.out nq;exact ⟨k+1,by have:=HLT.out;omega,by go_num,HX2.out,m',hm'⟩
      case measure=>simp [intOf];have:=HLT.out;omega
     ·have HY2:Hid (decide (l=m)=false):=HY.out (by simpa using hxy);have hne:(x2 !=y2)=true:=by simpa using hxy
      have hne2:(x2==y2)=false:=by simpa using hxy
      have hne3:decide (x2=y2)=false:=by simpa using hxy
      clear HX HY;go_wp2_with fail
      go_quiet (fail)
      go_wp2_with fail
      go_ret;exact ⟨ret_bool HY2.out.symm,HB.out _⟩
    ·have HY2:Hid (decide (l=m)=false):=HY.out (by simp [hxy]);have hne:(x1 !=y1)=true:=by simpa using hxy
     have hne2:(x1==y1)=false:=by simpa using hxy
     have hne3:decide (x1=y1)=false:=by simpa using hxy
     clear HX HY;go_wp2_with fail
     go_quiet (fail)
     go_wp2_with fail
     go_ret;exact ⟨ret_bool HY2.out.symm,HB.out _⟩
   ·have hkn':decide ((k:Int)<(l.length:Int))=false:=by simp;omega
    have HE:Hid (decide (l=m)=true):=decide_eq_true (by
     have h:=HTK.out
     rwa [List.take_of_length_le (by omega),List.take_of_length_le (by rw [HM.out];omega)] at h)
    go_wp2_with fail
    go_ret;exact ⟨ret_bool HE.out.symm,dn_below w q⟩
 ·have HE:Hid (decide (l=m)=false):=decide_eq_false (fun h=>hlm (by rw [h]));have hne:(((l.length:Nat):Int)!=((m.length:Nat):Int))=true:=by simp;omega
  have hne2:(l.length !=m.length)=true:=by simpa using hlm
  clear h1 h2;generalize l.length=n at *;generalize m.length=n' at *;go_enter Tryz.func299,Tryz.ntmps299;go_wp2_with fail
  go_ret;exact ⟨ret_bool HE.out.symm,Below.refl _ _⟩
def sam (e f:Int) (L:List Int) (J:List (Int×Int)) (e' f':Int) (L':List Int) (J':List (Int×Int)):Bool:=decide (e=e')&&decide (f=f')&&decide (L=L')&&decide (J=J')
theorem sam_iff {e f:Int} {L:List Int} {J:List (Int×Int)} {e' f':Int} {L':List Int} {J':List (Int×Int)}:sam e f L J e' f' L' J'=true↔e=e'∧f=f'∧L=L'∧J=J':=by
 simp [sam,and_assoc]
theorem sam_refl (e f:Int) (L:List Int) (J:List (Int×Int)):sam e f L J e f L J=true:=sam_iff.2 ⟨rfl,rfl,rfl,rfl⟩
set_option maxRecDepth 100000 in
set_option maxHeartbeats 1000000 in
theorem sr1_any (e f e' f':Int) (aL aJ aL' aJ':Option Addr) (cL cJ cL' cJ':Nat) (L L':List Int) (J J':List (Int×Int)) (w:World) (hL:L.length<4611686018427387904) (hL':L'.length<4611686018427387904) (hJ:J.length<4611686018427387904) (hJ':J'.length<4611686018427387904) (rL:RdI w aL L) (rJ:RdP w aJ J) (rL':RdI w aL' L') (rJ':RdP w aJ' J'):
  Calls Tryz.prog 244 #[.agg #[.int .i64 e,.int .i64 f,.slice aL L.length cL,.slice aJ J.length cJ],.agg #[.int .i64 e',.int .i64 f',.slice aL' L'.length cL',.slice aJ' J'.length cJ']] w fun r w'=>r=.returned (.bool (sam e f L J e' f' L' J'))∧Below w.heap.size w w':=by
 have hb1:=below_alloc w (.cells #[.int .i64 e,.int .i64 f,.slice aL L.length cL,.slice aJ J.length cJ] 94);have hb2:=hb1.alloc hb1.size (.cells #[.int .i64 e',.int .i64 f',.slice aL' L'.length cL',.slice aJ' J'.length cJ'] 94);have HSAM:Hid (sam e f L J e' f' L' J'=(decide (e=e')&&decide (f=f')&&decide (L=L')&&decide (J=J'))):=rfl;by_cases g1:e=e'
 ·subst g1;by_cases g2:f=f'
  ·subst g2;rw [decide_eq_true rfl,decide_eq_true rfl,Bool.true_and,Bool.true_and] at HSAM;have hI:=eqI_any aL aL' cL cL' L L' _ hL hL' (rL.later hb2) (rL'.later hb2);have HJJ:Hid (∀W,Below w.heap.size w W→Calls Tryz.prog 299 #[.slice aJ J.length cJ,.slice aJ' J'.length cJ'] W fun e w'=>e=.returned (.bool (decide (J=J')))∧Below W.heap.size W w'):=fun W hW=>eqS_any aJ aJ' cJ cJ' J J' W hJ hJ' (rJ.later hW) (rJ'.later hW)
   have h1:=RcAt.new w #[.int .i64 e,.int .i64 f,.slice aL L.length cL,.slice aJ J.length cJ];have h1':=h1.later (below_alloc _ (.cells #[.int .i64 e,.int .i64 f,.slice aL' L'.length cL',.slice aJ' J'.length cJ'] 94));have h2:=RcAt.new (w.alloc (.cells #[.int .i64 e,.int .i64 f,.slice aL L.length cL,.slice aJ J.length cJ] 94)) #[.int .i64 e,.int .i64 f,.slice aL' L'.length cL',.slice aJ' J'.length cJ'];rw [World.size_alloc] at h2;clear rL rL' rJ rJ' hL hL' hJ hJ' h1 hb1;generalize L.length=nL at *;generalize J.length=nJ at *;generalize L'.length=nL' at *;generalize J'.length=nJ' at *;go_enter Tryz.func244,Tryz.ntmps244;go_upto_region 1 with (fail)
   generalize (w.alloc (.cells #[.int .i64 e,.int .i64 f,.slice aL nL cL,.slice aJ nJ cJ] 94)).alloc (.cells #[.int .i64 e,.int .i64 f,.slice aL' nL' cL',.slice aJ' nJ' cJ'] 94)=w2 at *;obtain ⟨B',hB'⟩:∃B,w.heap.size+1=B:=⟨_,rfl⟩;obtain ⟨B,hB⟩:∃B,w.heap.size=B:=⟨_,rfl⟩;rw [hB'] at h2 ⊢;rw [hB] at h1' ⊢;clear hB hB';obtain ⟨c0,c1,c2,c3⟩:=h1'.cells;obtain ⟨d0,d1,d2,d3⟩:=h2.cells
   cases hq:decide (L=L') with
   | false=>
    rw [hq] at hI HSAM;clear hq;go_wp2_with fail
    refine hI.mono ?_;rintro r w3 ⟨rfl,hb3⟩;clear hI c0 c1 c2 c3 d0 d1 d2 d3 h1' h2;have HB3:Hid (Below w.heap.size w w3):=hb2.trans (hb3.mono hb2.size);clear hb2 hb3;go_wp2_with fail
    go_ret;exact ⟨ret_bool (by rw [HSAM.out];rfl),HB3.out⟩
   | true=>
    rw [hq,Bool.true_and] at HSAM;rw [hq] at hI;clear hq;go_wp2_with fail
    refine hI.mono ?_;rintro r w3 ⟨rfl,hb3⟩;clear hI c0 c1 c2 c3 d0 d1 d2 d3;obtain ⟨c0,c1,c2,c3⟩:=(h1'.later hb3).cells;obtain ⟨d0,d1,d2,d3⟩:=(h2.later hb3).cells;have HB3:Hid (Below w.heap.size w w3):=hb2.trans (hb3.mono hb2.size);have hJJ:=HJJ.out w3 HB3.out;obtain ⟨b,hb⟩:∃b,decide (J=J')=b:=⟨_,rfl⟩;rw [hb] at hJJ HSAM;clear hb2 hb3 h1' h2 hb;go_wp2_with fail
    refine hJJ.mono ?_;rintro r w4 ⟨rfl,hb4⟩;clear hJJ c0 c1 c2 c3 d0 d1 d2 d3;go_wp2_with fail
    go_ret;exact ⟨ret_bool (by rw [HSAM.out]),HB3.out.trans (hb4.mono HB3.out.size)⟩
  ·have hne:(f==f')=false:=by simpa using g2
   have HE:Hid (sam e f L J e f' L' J'=false):=by unfold Hid sam;rw [decide_eq_false g2];simp
   clear rL rL' rJ rJ' g2 HSAM;generalize L.length=nL at *;generalize J.length=nJ at *;generalize L'.length=nL' at *;generalize J'.length=nJ' at *;go_enter Tryz.func244,Tryz.ntmps244;go_wp2_with fail
   go_ret;exact ⟨ret_bool HE.out.symm,hb2⟩
 ·have hne:(e==e')=false:=by simpa using g1
  have HE:Hid (sam e f L J e' f' L' J'=false):=by unfold Hid sam;rw [decide_eq_false g1];rfl
  clear rL rL' rJ rJ' g1 HSAM;generalize L.length=nL at *;generalize J.length=nJ at *;generalize L'.length=nL' at *;generalize J'.length=nJ' at *;go_enter Tryz.func244,Tryz.ntmps244;go_wp2_with fail
  go_ret;exact ⟨ret_bool HE.out.symm,hb2⟩
end Go.Proofs.YtoimkngkcliinaaGreatDoor.Rc
