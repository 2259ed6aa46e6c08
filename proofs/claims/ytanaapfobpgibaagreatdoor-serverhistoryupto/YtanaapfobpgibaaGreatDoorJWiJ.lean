/- WiJ, WiPa, WiPb, WiPc, WiPf, joined. -/
import Derived.Test.YtanaapfobpgibaaGreatDoorJWiV1
import Derived.Test.YtanaapfobpgibaaGreatDoorJBitUnpack
open Go.Proofs.Tryz
set_option maxHeartbeats 2000000
namespace Go.Proofs.YtanaapfobpgibaaGreatDoor.Wi
open Go.RowKit Go.Maps
set_option linter.unusedVariables false
set_option linter.unusedSimpArgs false
set_option maxRecDepth 100000 in
theorem H7 (m:lZ) (aL aJ aI:Option Addr) (cL cJ cI:Nat) (w:World) (hr:MR w m aL aJ aI) (YN:m.kd=1):
  Calls prog 24 #[.agg (CU m aL aJ aI cL cJ cI).toArray] w fun e w'=>e=.returned (.bool (gM m))∧Below w.heap.size w w':=by
 unfold CU;have hsm:=fun W (hb:Below w.heap.size w W)=>Ko m.rk zR aL aJ aI none none none cL cJ cI 0 0 0 W (hr.l.later hb) (hr.j.later hb) (hr.i.later hb) (iG.nil _ _ _ _) (iG.nil _ _ _ _) (iG.nil _ _ _ _) hr.nl hr.nj hr.ni (by show (0:Nat)<_;decide) (by show (0:Nat)<_;decide) (by show (0:Nat)<_;decide)
 have HR:Hid (MR w m aL aJ aI):=hr;clear hr;have GA:=fun W=>qb 59 (w:=W) 9998 m.rq zQ (.inr (.inr rfl))
 have Jq:=fun W=>Cr (w:=W) 9995 m.rp zP
 have LD:=fun W=>Cq (w:=W) 9997 m.sd zD
 have hM:df (w.alloc (.cells (xE m (.slice aL m.rk.2.1.length cL) (.slice aJ m.rk.2.2.1.length cJ) (.slice aI m.rk.2.2.2.length cI)).toArray 68)) w.heap.size m (.slice aL m.rk.2.1.length cL) (.slice aJ m.rk.2.2.1.length cJ) (.slice aI m.rk.2.2.2.length cI):=heap_alloc_last w _;have hB:=aa w (.cells (xE m (.slice aL m.rk.2.1.length cL) (.slice aJ m.rk.2.2.1.length cJ) (.slice aI m.rk.2.2.2.length cI)).toArray 68);obtain ⟨nL,wK⟩:∃n,m.rk.2.1.length=n:=⟨_,rfl⟩;obtain ⟨nJ,wL⟩:∃n,m.rk.2.2.1.length=n:=⟨_,rfl⟩;obtain ⟨nI,IJ⟩:∃n,m.rk.2.2.2.length=n:=⟨_,rfl⟩;have Et:Hid (m.rk.2.1.length=nL∧m.rk.2.2.1.length=nJ∧m.rk.2.2.2.length=nI):=⟨wK,wL,IJ⟩;simp only [wK,wL,IJ] at hsm hM hB;rw [wK,wL,IJ];clear wK wL IJ;obtain ⟨ct,bQ⟩:∃c,(xE m (.slice aL nL cL) (.slice aJ nJ cJ) (.slice aI nI cI)).toArray=c:=⟨_,rfl⟩;rw [bQ] at hB;rw [bQ];have HM:Hid (df (w.alloc (.cells ct 68)) w.heap.size m (.slice aL nL cL) (.slice aJ nJ cJ) (.slice aI nI cI)):=by have h:=hM;rw [bQ] at h;exact h
 clear hM bQ;obtain ⟨nr,hnr⟩:∃b,nR m.rk=b:=⟨_,rfl⟩;have HNR:Hid (nR m.rk=nr):=hnr;have HG:Hid (gM m=(gR m.rk&&(decide (m.rq=zQ)&&(decide (m.rp=zP)&&decide (m.sd=zD))))):=by unfold Hid gM;rw [if_pos YN]
 have hP:=fun W (hb:Below w.heap.size w W)=>Fj m.rk aL aJ aI cL cJ cI W (HR.out.l.later hb) (HR.out.j.later hb) (HR.out.i.later hb) HR.out.nl HR.out.nj HR.out.ni
 simp only [Et.out.1,Et.out.2.1,Et.out.2.2] at hP;generalize decide (m.rq=zQ)=g1 at *;generalize decide (m.rp=zP)=g2 at *;generalize decide (m.sd=zD)=g3 at *;generalize gR m.rk=g0 at *;rw [HG.out];clear HG;clear hnr;go_enter func24,ntmps24;go_upto_region 1 with (fail)
 generalize w.alloc (.cells ct 68)=w1 at *;obtain ⟨B,tI⟩:∃B,w.heap.size=B:=⟨_,rfl⟩;rw [tI] at HM ⊢;clear tI;have HB:Hid (Below w.heap.size w w1):=hB;clear hB;have HK:Hid (w1.rangeAt B 1 (vy m.rk.1 (.slice aL nL cL) (.slice aJ nJ cJ) (.slice aI nI cI))):=HM.out.rk;have hsm:=hsm w1 HB.out;go_wp2_with (refine kg HK.out underlying54 rfl Ka _ rfl rfl rfl ?_)
 refine hsm.mono ?_;rintro q w2 ⟨⟨bn,rfl,hbn⟩,hb2⟩
 obtain rfl:bn=nr:=by
  have h2:nR m.rk=true↔m.rk=zR:=si;rw [Bool.eq_iff_iff,hbn,←HNR.out,h2]
 have JV:Hid (df w2 B m (.slice aL nL cL) (.slice aJ nJ cJ) (.slice aI nI cI)):=HM.out.later hb2;have bm:Hid (Below w.heap.size w w2):=Below.join HB.out hb2;clear hsm hb2 HM HB HK hbn;have ck:=JV.out.kind;rw [YN] at ck;clear YN;have H1:Hid (w2.rangeAt B 5 (iI m.rq)):=JV.out.rq;have H2:Hid (w2.rangeAt B 7 (mz m.rp)):=JV.out.rp;have H3:Hid (w2.rangeAt B 22 (Ti m.sd)):=JV.out.sd;have EQ1:Hid _:=GA;have EQ2:Hid _:=Jq;have EQ3:Hid _:=LD;clear GA Jq LD;have GA:=EQ1.out w2;have Jq:=EQ2.out w2;have LD:=EQ3.out w2;have HK:Hid (w2.rangeAt B 1 (vy m.rk.1 (.slice aL nL cL) (.slice aJ nJ cJ) (.slice aI nI cI))):=JV.out.rk;have hP:=hP w2 bm.out;go_wp2_with (first | (refine kg HK.out underlying54 rfl Ka _ rfl rfl rfl ?_) | (refine kg H1.out underlying59 rfl E0 _ rfl rfl rfl ?_) | (refine BS GA eqGuardType59 _ _ rfl rfl rfl rfl ?_) | (refine kg H2.out underlying64 rfl J_ _ rfl rfl rfl ?_) | (refine BS Jq eqGuardType64 _ _ rfl rfl rfl rfl ?_) | (refine kg H3.out underlying66 rfl M0 _ rfl rfl rfl ?_) | (refine BS LD eqGuardType66 _ _ rfl rfl rfl rfl ?_))
 refine hP.mono ?_;rintro q w3 ⟨rfl,hb3⟩;have P8:=JV.out.later hb3;have dR:Hid (Below w.heap.size w w3):=Below.join bm.out hb3;clear H1 H2 H3 GA Jq LD HK hP hb3 JV;have H1:Hid (w3.rangeAt B 5 (iI m.rq)):=P8.rq;have H2:Hid (w3.rangeAt B 7 (mz m.rp)):=P8.rp;have H3:Hid (w3.rangeAt B 22 (Ti m.sd)):=P8.sd;have GA:=EQ1.out w3;have Jq:=EQ2.out w3;have LD:=EQ3.out w3;clear P8
 cases g0 with
 | false=>
  go_wp2_with fail
  go_ret;exact ⟨rfl,dR.out⟩
 | true=>
  cases g1 with
  | false=>
   go_wp2_with (first | (refine kg H1.out underlying59 rfl E0 _ rfl rfl rfl ?_) | (refine BS GA eqGuardType59 _ _ rfl rfl rfl rfl ?_) | (refine kg H2.out underlying64 rfl J_ _ rfl rfl rfl ?_) | (refine BS Jq eqGuardType64 _ _ rfl rfl rfl rfl ?_) | (refine kg H3.out underlying66 rfl M0 _ rfl rfl rfl ?_) | (refine BS LD eqGuardType66 _ _ rfl rfl rfl rfl ?_))
   go_ret;exact ⟨rfl,dR.out⟩
  | true=>
   cases g2 with
   | false=>
    go_wp2_with (first | (refine kg H1.out underlying59 rfl E0 _ rfl rfl rfl ?_) | (refine BS GA eqGuardType59 _ _ rfl rfl rfl rfl ?_) | (refine kg H2.out underlying64 rfl J_ _ rfl rfl rfl ?_) | (refine BS Jq eqGuardType64 _ _ rfl rfl rfl rfl ?_) | (refine kg H3.out underlying66 rfl M0 _ rfl rfl rfl ?_) | (refine BS LD eqGuardType66 _ _ rfl rfl rfl rfl ?_))
    go_ret;exact ⟨rfl,dR.out⟩
   | true=>
    go_wp2_with (first | (refine kg H1.out underlying59 rfl E0 _ rfl rfl rfl ?_) | (refine BS GA eqGuardType59 _ _ rfl rfl rfl rfl ?_) | (refine kg H2.out underlying64 rfl J_ _ rfl rfl rfl ?_) | (refine BS Jq eqGuardType64 _ _ rfl rfl rfl rfl ?_) | (refine kg H3.out underlying66 rfl M0 _ rfl rfl rfl ?_) | (refine BS LD eqGuardType66 _ _ rfl rfl rfl rfl ?_))
    go_ret;exact ⟨by cases g3 <;> rfl,dR.out⟩
open Bt (Kept tb bA JR ua ub)
/- Fields as cells. -/
variable {l:List (Nat×Int)} {E k n0:Nat} {W w:World} {v x y:Value} {T:TypeId}
def Zk (x:Nat×Int):List Value:=[.int .u64 (x.1:Int),.int .i64 x.2]
def ko (l:List (Nat×Int)):List Value:=l.flatMap Zk
theorem wU (l:List (Nat×Int)) (x:Nat×Int):ko (l++[x])=ko l++Zk x:=by simp [ko]
theorem qO:∀(l:List (Nat×Int)) (i:Nat),i<l.length→(ko l)[i * 2]? =some (.int .u64 ((l.getD i (0,0)).1:Int))∧(ko l)[i * 2+1]? =some (.int .i64 (l.getD i (0,0)).2)
 | [],i,h=>by cases h
 | x::l,i,hi=>by
  have e:ko (x::l)=.int .u64 (x.1:Int):: .int .i64 x.2::ko l:=rfl;rw [e]
  cases i with
  | zero=>exact ⟨rfl,rfl⟩
  | succ i=>
   have:=qO l i (by simpa using hi);rw [show (i+1) * 2=i * 2+1+1 by omega,show i * 2+1+1+1=(i * 2+1)+1+1 by omega]
   simpa using this
theorem Pg:(prog.info? 110).map (fun i=>(i.zero,i.size,i.bytes))=some (some (.agg #[.int .u64 0,.int .i64 0]),2,16):=by kernel_rfl
theorem ir:∃i,prog.info? 110=some i∧i.zero=some (.agg #[.int .u64 0,.int .i64 0])∧i.size=2∧i.bytes=16:=by
 have h:=Pg
 cases hq:prog.info? 110 with
 | none=>rw [hq] at h;cases h
 | some i=>
  rw [hq] at h;simp at h;exact ⟨i,rfl,h.1,h.2.1,h.2.2⟩
theorem Lx (h:k<l.length):l.getD k (0,0)∈l:=by
 simp [List.getD,h]
theorem Ad {a:Option Addr} {cap:Nat} (h:W.ownsRow n0 110 2 (.slice a l.length cap) l.length (ko l)) (hl:∀x∈l,x.1<18446744073709551616):JR W a l:=by
 rcases h.2 with ⟨e,h0⟩ | ⟨g,cap',cur,e,h3,h4,h5,h6,h7,h8⟩
 ·intro i hi;omega
 ·cases e
  intro i hi;obtain ⟨p0,p1⟩:=qO l i hi
  have cell:∀j v,j<l.length * 2→(ko l)[j]? =some v→W.cell? ⟨g,j,none⟩=some v:=fun j v hj hv=>by
   rw [cell_of_row W g j _ _ _ h4,←hv,←h8,List.getElem?_take_of_lt hj];simp
  refine ⟨g,0,rfl,?_,?_,hl _ (Lx hi)⟩
  ·rw [Nat.zero_add];exact cell _ _ (by omega) p0
  ·rw [Nat.zero_add];exact cell _ _ (by omega) p1
/- A list of fields that has grown. -/
structure GR (w w':World) (v v':Value) (l:List (Nat×Int)):Prop where
 row:w'.ownsRow 0 110 2 v' l.length (ko l)
 kp:Kept (fun k=>v.ownBlock=some k) w w'
 own:∀k,v'.ownBlock=some k→v.ownBlock=some k∨w.heap.size≤k
section
variable {a b c:World} {v v' v'':Value} {l l':List (Nat×Int)}
theorem GR.refl (h:a.ownsRow 0 110 2 v l.length (ko l)):GR a a v v l:=⟨h,Kept.refl _ _,fun k hk=>.inl hk⟩
theorem GR.trans (h:GR a b v v' l) (h':GR b c v' v'' l'):GR a c v v'' l':=
 ⟨h'.row,h.kp.trans h'.kp (fun i hi hf=>(h.own i hf).resolve_right (by omega)),fun k hk=>(h'.own k hk).elim (h.own k) (fun BN=>.inr (Nat.le_trans h.kp.size BN))⟩
theorem GR.ahead (hb:Below a.heap.size a b) (h:GR b c v v' l):GR a c v v' l:=
 ⟨h.row,(Kept.bb hb).trans h.kp (fun i hi hf=>hf),fun k hk=>(h.own k hk).imp id (Nat.le_trans hb.size)⟩
theorem GR.later (h:GR a b v v' l) (hb:Below b.heap.size b c):GR a c v v' l:=
 ⟨ar h.row hb,h.kp.trans (Kept.bb (F:=fun _=>False) hb) (fun i hi hf=>hf.elim),h.own⟩
theorem GR.block (h:GR a b v v' l) {E:Nat} (hE:E<a.heap.size) (hn:v.ownBlock≠some E):b.heap[E]? =a.heap[E]? :=h.kp.block E hE hn
theorem GR.ne (h:GR a b v v' l) (hE:E<a.heap.size) (hn:v.ownBlock≠some E):v'.ownBlock≠some E:=fun he=>by
 rcases h.own E he with h1 | h1
 ·exact hn h1
 ·omega
theorem GR.below (h:GR a b (.slice none 0 0) v' l):Below a.heap.size a b:=h.kp.below (Nat.le_refl _) (fun k hk=>by cases hk)
end
theorem wrap_u64 (v:Int) (h0:0≤v) (h:v<4611686018427387904):IntKind.u64.wrap v=v:=by rw [IntKind.wrap_u64];omega
set_option maxRecDepth 100000 in
theorem ik (x q:Int) (h0:0≤x) (h1:x<4611686018427387904) (hr:w.ownsRow 0 110 2 v l.length (ko l)) (hl:l.length≤20000):
  Calls prog 25 #[v,.int .i64 x,.int .i64 q] w fun e w'=>∃v',e=.returned v'∧GR w w' v v' (l++[(x.toNat,q)]):=by
 obtain ⟨i0,hi,hz0,hz1,hz2⟩:=ir;have hwr:=wrap_u64 x h0 h1;obtain ⟨a1,aS,rfl⟩:=ah hr;have HR:Hid _:=hr;have HX:Hid (0≤x):=h0;clear h0 h1;go_enter func25,ntmps25;go_wp2_with (at_builtin;(refine wpList_append_lies _ rfl _ _ 99 rfl 0 110 i0 (.agg #[.int .u64 0,.int .i64 0]) 2 16 underlying99 hi hz0 hz1 hz2 rfl (by decide) (.slice a1 l.length aS) l.length (ko l) rfl (hr.alloc _) ⟨w.heap.size,0,none⟩ 1 1 [.int .u64 x,.int .i64 q] rfl rfl (bD _ _ _) (by simp [Value.oneCell']) (by omega) (by unfold maxLen;omega) (by omega) (by omega) (w.heap.size+1) (by simp) ?_);intro g cap w3 hown hgr hat hlt;have HO:Hid (w3.ownsRow 0 110 2 (.slice (some ⟨g,0,none⟩) (l.length+1) cap) (l.length+1) (ko l++[.int .u64 x,.int .i64 q])):=hown;have HG:Hid ((w.alloc (.cells #[.int .u64 x,.int .i64 q] 110)).grownBy w3 (Value.slice a1 l.length aS).ownBlock):=hgr;have HA:Hid ((Value.slice a1 l.length aS).ownBlock=some g∨g=w.heap.size+1):=hat;clear hown hgr hat hlt)
 go_ret;have e:(l++[(x.toNat,q)]).length=l.length+1:=by simp
 have e2:ko (l++[(x.toNat,q)])=ko l++[.int .u64 x,.int .i64 q]:=by
  rw [wU];unfold Zk;dsimp only;rw [Int.toNat_of_nonneg HX.out]
 refine ⟨.slice (some ⟨g,0,none⟩) (l.length+1) cap,rfl,?_,?_,?_⟩
 ·rw [e,e2];exact HO.out
 ·have hg:=HG.out;refine ⟨hg.os,hg.tape,hg.output,by have:=hg.size;simp at this;omega,fun k hk hn=>?_⟩;rw [hg.block k (by simp;omega) (fun h=>hn h.symm)];exact (aa w _).block k hk
 ·intro k hk;have Mg:g=k:=by simpa [Value.ownBlock] using hk
  subst Mg;rcases HA.out with h | h
  ·exact .inl h
  ·exact .inr (by omega)
/- Numbers that can be written. -/
def nn (x:Int):Prop:=0≤x∧x<4611686018427387904
theorem Ao {T n:Nat} {xs:List Value} (h:w.ownsRow n0 T k v n xs):v.ownBlock≠some w.heap.size:=fun e=>by
 have:=(h.lt _ e).2;omega
theorem je (h:W.heap[E]? =some (.cells #[x,y] T (0,0))):W.cell? ⟨E,0,none⟩=some x∧W.cell? ⟨E,1,none⟩=some y:=⟨cell_of_row W E 0 _ _ _ h,cell_of_row W E 1 _ _ _ h⟩
set_option maxRecDepth 100000 in
theorem yK (kb ks:Int) (hb:nn kb) (hs:nn ks) (hr:w.ownsRow 0 110 2 v l.length (ko l)) (hl:l.length≤19900):
  Calls prog 28 #[v,.agg #[.int .i64 kb,.int .i64 ks]] w fun e w'=>∃v',e=.returned v'∧GR w w' v v' (l++fK (kb,ks)):=by
 have hE:=heap_alloc_last w (.cells #[.int .i64 kb,.int .i64 ks] 31);have cA:=aa w (.cells #[.int .i64 kb,.int .i64 ks] 31);have L4:Hid _:=ar hr cA;have sR:Hid (w.heap.size<(w.alloc (.cells #[.int .i64 kb,.int .i64 ks] 31)).heap.size∧v.ownBlock≠some w.heap.size):=⟨by simp,Ao hr⟩;have dV:Hid _:=cA;clear cA hr;go_enter func28,ntmps28;go_upto_region 1 with (fail)
 generalize w.alloc (.cells #[.int .i64 kb,.int .i64 ks] 31)=w1 at *;obtain ⟨E,Qb⟩:∃E,w.heap.size=E:=⟨_,rfl⟩;rw [Qb] at hE sR ⊢;clear Qb;have hE:w1.drew.heap[E]? =some (.cells #[.int .i64 kb,.int .i64 ks] 31 (0,0)):=hE;have zh:=ik kb 16 hb.1 hb.2 (w:=w1.drew) (v:=v) (l:=l) L4.out (by omega);have HS:Hid (nn ks):=hs;have HL:Hid (l.length≤19900):=hl;clear hb hs hl;refine wp_region_held_drew (S:=fun W=>W.cell? ⟨E,0,none⟩=some (.int .i64 kb)∧W.cell? ⟨E,1,none⟩=some (.int .i64 ks)) (by kernel_rfl) (je hE) (fun hHeld=>?_);refine aH 0 (v) rfl ?_;go_frame;refine aH 1 (.pointer (some ⟨E,0,none⟩)) rfl ?_;go_frame;refine aH 2 (.int .i64 kb) rfl ?_;go_frame;refine aH 4 (.pointer (some ⟨E,1,none⟩)) rfl ?_;go_frame;refine aH 5 (.int .i64 ks) rfl ?_;go_frame;refine dh 3 rfl fun K hK=>?_;go_simp
 refine zh.mono ?_;rintro e w2 ⟨v2,rfl,g2⟩;have oz:=(g2.block sR.out.1 sR.out.2).trans hE;have iJ:=ik ks 8 HS.out.1 HS.out.2 (w:=w2) (v:=v2) g2.row (by have:=HL.out;simp;omega);have iP:Hid (GR w1.drew w2 v v2 (l++[(kb.toNat,16)])):=g2;have u6:Hid (w2.heap[E]? =some (.cells #[.int .i64 kb,.int .i64 ks] 31 (0,0))):=oz;have Mr:Hid (v2.ownBlock≠some E∧E<w2.heap.size):=⟨g2.ne sR.out.1 sR.out.2,Nat.lt_of_lt_of_le sR.out.1 g2.kp.size⟩;clear zh g2 oz;go_wp2_with fail
 refine hK.out _ _ (je u6.out) (fun aD=>?_);clear hHeld;clear hK K;try go_frame
 refine dh 6 rfl fun K hK=>?_;go_simp
 refine iJ.mono ?_;rintro e w3 ⟨v3,rfl,g3⟩;have xN:=(g3.block Mr.out.2 Mr.out.1).trans u6.out;have oT:Hid (GR w1.drew w3 v v3 (l++[(kb.toNat,16)]++[(ks.toNat,8)])):=iP.out.trans g3;clear iJ g3;go_wp2_with fail
 refine hK.out _ _ (je xN) (fun aN=>?_);clear aD xN;clear hK K;try go_frame
 refine aH 7 (v3) rfl ?_;go_frame;refine wpAnyH_done (by kernel_rfl) ?_ _;go_wp2_with fail
 go_ret;refine ⟨v3,rfl,?_⟩;have e:l++fK (kb,ks)=l++[(kb.toNat,16)]++[(ks.toNat,8)]:=by simp [fK]
 rw [e];exact GR.ahead (dV.out.trans ((aG w1).mono dV.out.size)) oT.out
theorem pM {z u:Value} (h:W.heap[E]? =some (.cells #[x,y,z,u] T (0,0))):W.cell? ⟨E,0,none⟩=some x∧W.cell? ⟨E,1,none⟩=some y∧W.cell? ⟨E,2,none⟩=some z∧W.cell? ⟨E,3,none⟩=some u:=⟨cell_of_row W E 0 _ _ _ h,cell_of_row W E 1 _ _ _ h,cell_of_row W E 2 _ _ _ h,cell_of_row W E 3 _ _ _ h⟩
set_option maxRecDepth 100000 in
theorem KJ (kb ks lb ls:Int) (hb:nn kb∧nn ks) (hs:nn lb∧nn ls) (hr:w.ownsRow 0 110 2 v l.length (ko l)) (hl:l.length≤19800):
  Calls prog 27 #[v,.agg #[.int .i64 kb,.int .i64 ks,.int .i64 lb,.int .i64 ls]] w fun e w'=>∃v',e=.returned v'∧GR w w' v v' (l++fB ((kb,ks),(lb,ls))):=by
 have hE:=heap_alloc_last w (.cells #[.int .i64 kb,.int .i64 ks,.int .i64 lb,.int .i64 ls] 61);have cA:=aa w (.cells #[.int .i64 kb,.int .i64 ks,.int .i64 lb,.int .i64 ls] 61);have L4:Hid _:=ar hr cA;have sR:Hid (w.heap.size<(w.alloc (.cells #[.int .i64 kb,.int .i64 ks,.int .i64 lb,.int .i64 ls] 61)).heap.size∧v.ownBlock≠some w.heap.size):=⟨by simp,Ao hr⟩;have dV:Hid _:=cA;clear cA hr;go_enter func27,ntmps27;go_upto_region 1 with (fail)
 generalize w.alloc (.cells #[.int .i64 kb,.int .i64 ks,.int .i64 lb,.int .i64 ls] 61)=w1 at *;obtain ⟨E,Qb⟩:∃E,w.heap.size=E:=⟨_,rfl⟩;rw [Qb] at hE sR ⊢;clear Qb;have hE:w1.drew.heap[E]? =some (.cells #[.int .i64 kb,.int .i64 ks,.int .i64 lb,.int .i64 ls] 61 (0,0)):=hE;have zh:=yK kb ks hb.1 hb.2 (w:=w1.drew) (v:=v) (l:=l) L4.out (by omega);have HS:Hid (nn lb∧nn ls):=hs;have HL:Hid (l.length≤19800):=hl;clear hb hs hl;refine wp_region_held_drew (S:=fun W=>W.cell? ⟨E,0,none⟩=some (.int .i64 kb)∧W.cell? ⟨E,1,none⟩=some (.int .i64 ks)∧W.cell? ⟨E,2,none⟩=some (.int .i64 lb)∧W.cell? ⟨E,3,none⟩=some (.int .i64 ls)) (by kernel_rfl) (pM hE) (fun hHeld=>?_);refine aH 0 (v) rfl ?_;go_frame;refine aH 1 (.pointer (some ⟨E,0,none⟩)) rfl ?_;go_frame;refine aH 2 (.agg #[.int .i64 kb,.int .i64 ks]) rfl ?_;go_frame;refine aH 4 (.pointer (some ⟨E,2,none⟩)) rfl ?_;go_frame;refine aH 5 (.agg #[.int .i64 lb,.int .i64 ls]) rfl ?_;go_frame;refine dh 3 rfl fun K hK=>?_;go_simp
 refine zh.mono ?_;rintro e w2 ⟨v2,rfl,g2⟩;have oz:=(g2.block sR.out.1 sR.out.2).trans hE;have iJ:=yK lb ls HS.out.1 HS.out.2 (w:=w2) (v:=v2) g2.row (by have:=HL.out;simp [fK];omega);have iP:Hid (GR w1.drew w2 v v2 (l++fK (kb,ks))):=g2;have u6:Hid (w2.heap[E]? =some (.cells #[.int .i64 kb,.int .i64 ks,.int .i64 lb,.int .i64 ls] 61 (0,0))):=oz;have Mr:Hid (v2.ownBlock≠some E∧E<w2.heap.size):=⟨g2.ne sR.out.1 sR.out.2,Nat.lt_of_lt_of_le sR.out.1 g2.kp.size⟩;clear zh g2 oz;go_wp2_with fail
 refine hK.out _ _ (pM u6.out) (fun aD=>?_);clear hHeld;clear hK K;try go_frame
 refine dh 6 rfl fun K hK=>?_;go_simp
 refine iJ.mono ?_;rintro e w3 ⟨v3,rfl,g3⟩;have xN:=(g3.block Mr.out.2 Mr.out.1).trans u6.out;have oT:Hid (GR w1.drew w3 v v3 (l++fK (kb,ks)++fK (lb,ls))):=iP.out.trans g3;clear iJ g3;go_wp2_with fail
 refine hK.out _ _ (pM xN) (fun aN=>?_);clear aD xN;clear hK K;try go_frame
 refine aH 7 (v3) rfl ?_;go_frame;refine wpAnyH_done (by kernel_rfl) ?_ _;go_wp2_with fail
 go_ret;refine ⟨v3,rfl,?_⟩;have e:l++fB ((kb,ks),(lb,ls))=l++fK (kb,ks)++fK (lb,ls):=by simp [fB]
 rw [e];exact GR.ahead (dV.out.trans ((aG w1).mono dV.out.size)) oT.out
open Bt (Kept tb bA JR ua ub okF)
theorem Jc {α β:Type} (f:α→List β) {l:List α} {k:Nat} (h:k<l.length):(l.take (k+1)).flatMap f=(l.take k).flatMap f++f l[k]:=by
 rw [List.take_succ_eq_append_getElem h,List.flatMap_append];simp
theorem uQ {α β:Type} (f:α→List β) (n:Nat) (h:∀x,(f x).length=n):∀l:List α,(l.flatMap f).length=l.length * n
 | []=>by simp
 | x::l=>by rw [List.flatMap_cons,List.length_append,h,uQ f n h l,List.length_cons];rw [Nat.succ_mul];omega
set_option maxRecDepth 100000 in
theorem KI (L:List (Int×Int)) (aL:Option Addr) (cL:Nat) (hg:∀x∈L,nn x.1∧nn x.2) (hn:L.length≤64) {w0 w:World} {v:Value} {l:List (Nat×Int)} (rd:iG iI 2 w0 aL L) (hG:GR w0 w (.slice none 0 0) v l) (hl:l.length≤10000):
  Calls prog 26 #[v,.slice aL L.length cL] w fun e w'=>∃v',e=.returned v'∧GR w0 w' (.slice none 0 0) v' (l++fL L):=by
 obtain ⟨n,yb⟩:∃n,L.length=n:=⟨_,rfl⟩;have HN:Hid (L.length=n):=yb;have HF:Hid (l++fL L=l++[(n,7)]++L.flatMap fS):=by unfold Hid fL;rw [yb];simp
 rw [HF.out];rw [yb] at hn ⊢;clear yb;have hq:=ik (n:Int) 7 (by omega) (by omega) hG.row (by omega);rw [Int.toNat_natCast] at hq;have Xh:Hid (GR w0 w (.slice none 0 0) v l):=hG;clear hG;go_enter func26,ntmps26;go_wp2_with fail
 refine hq.mono ?_;rintro e w2 ⟨v2,rfl,g2⟩;have iP:Hid (GR w0 w2 (.slice none 0 0) v2 (l++[(n,7)])):=Xh.out.trans g2;clear hq g2 Xh;go_wp2_with fail
 go_loopw [0,13] (fun x i wr=>∃k:Nat,k≤n∧i=.int .i64 (k:Int)∧GR w0 wr (.slice none 0 0) x (l++[(n,7)]++(L.take k).flatMap fS)) (fun _ i _=>n - (intOf i).toNat)
 case atStart=>exact ⟨0,by omega,rfl,by simpa using iP.out⟩
 case round=>
  obtain ⟨k,hk,rfl,hG⟩:=hrel;have HG:Hid (GR w0 wr (.slice none 0 0) u0 (l++[(n,7)]++(L.take k).flatMap fS)):=hG;clear hG iP;by_cases cE:k<n
  ·have iw:k<L.length:=by rw [HN.out];exact cE
   obtain ⟨b,o,rfl,hr⟩:=rd k iw;have hr:=ej hr HG.out.below;unfold iI at hr;have i1:(0:Int)≤(k:Int):=by omega
   have i2:(k:Int)<(n:Int):=by omega
   have Ha:Hid ((L.take (k+1)).flatMap fS=(L.take k).flatMap fS++fS L[k]):=Jc fS iw
   have iO:Hid ((l++[(n,7)]++(L.take k).flatMap fS).length≤11000):=by
    unfold Hid;rw [List.length_append,List.length_append,uQ fS 2 (fun _=>rfl),List.length_take];simp;omega
   have L8:Hid (nn L[k].1∧nn L[k].2):=hg _ (List.getElem_mem iw);generalize L[k]=p at *;obtain ⟨pw,pl⟩:=p;dsimp only at *;clear iw;obtain ⟨lk,hlk⟩:∃x,l++[(n,7)]++(L.take k).flatMap fS=x:=⟨_,rfl⟩;have HLK:Hid (l++[(n,7)]++(L.take k).flatMap fS=lk):=hlk;rw [hlk] at HG iO;clear hlk;go_upto_region 5 with (refine kg hr underlying113 rfl ju _ rfl rfl rfl ?_)
   have hE:=heap_alloc_last wr (.cells #[.int .i64 pw,.int .i64 pl] 113);have cA:=aa wr (.cells #[.int .i64 pw,.int .i64 pl] 113);have L4:Hid _:=ar HG.out.row cA;have sR:Hid (wr.heap.size<(wr.alloc (.cells #[.int .i64 pw,.int .i64 pl] 113)).heap.size∧u0.ownBlock≠some wr.heap.size):=⟨by simp,Ao HG.out.row⟩;have dV:Hid _:=cA;have Xg:Hid (GR w0 (wr.alloc (.cells #[.int .i64 pw,.int .i64 pl] 113)) (.slice none 0 0) u0 lk):=HG.out.later cA;clear cA hr;generalize wr.alloc (.cells #[.int .i64 pw,.int .i64 pl] 113)=w1 at *;obtain ⟨E,Qb⟩:∃E,wr.heap.size=E:=⟨_,rfl⟩;rw [Qb] at hE sR ⊢;clear Qb;have hE:w1.drew.heap[E]? =some (.cells #[.int .i64 pw,.int .i64 pl] 113 (0,0)):=hE;have Df:=ik pw 8 L8.out.1.1 L8.out.1.2 (w:=w1.drew) (v:=u0) (l:=lk) L4.out (by have:=iO.out;omega);refine wp_region_held_drew (S:=fun W=>W.cell? ⟨E,0,none⟩=some (.int .i64 pw)∧W.cell? ⟨E,1,none⟩=some (.int .i64 pl)) (by kernel_rfl) (je hE) (fun hHeld=>?_);refine aH 0 (u0) rfl ?_;go_frame;refine aH 1 (.pointer (some ⟨E,0,none⟩)) rfl ?_;go_frame;refine aH 2 (.int .i64 pw) rfl ?_;go_frame;refine aH 4 (.pointer (some ⟨E,1,none⟩)) rfl ?_;go_frame;refine aH 5 (.int .i64 pl) rfl ?_;go_frame;refine dh 3 rfl fun K hK=>?_;go_simp
   refine Df.mono ?_;rintro e x1 ⟨v1,rfl,g2⟩;have sS:Hid (x1.heap[E]? =some (.cells #[.int .i64 pw,.int .i64 pl] 113 (0,0))):=(g2.block (sR.out.1) (sR.out.2)).trans hE;have RR:Hid (v1.ownBlock≠some E∧E<x1.heap.size):=⟨g2.ne (sR.out.1) (sR.out.2),Nat.lt_of_lt_of_le (sR.out.1) g2.kp.size⟩;have Mu:Hid (GR w1.drew x1 u0 v1 (lk++[(pw.toNat,8)])):=g2;clear Df g2;have De:=ik pl 6 L8.out.2.1 L8.out.2.2 (w:=x1) (v:=v1) Mu.out.row (by have:=iO.out;simp;omega);go_wp2_with fail
   refine hK.out _ _ (je sS.out) (fun aD=>?_);clear hHeld;clear hK K;try go_frame
   refine dh 6 rfl fun K hK=>?_;go_simp
   refine De.mono ?_;rintro e x2 ⟨v2,rfl,g2⟩;have u6:Hid (x2.heap[E]? =some (.cells #[.int .i64 pw,.int .i64 pl] 113 (0,0))):=(g2.block (RR.out.2) (RR.out.1)).trans sS.out;have Mr:Hid (v2.ownBlock≠some E∧E<x2.heap.size):=⟨g2.ne (RR.out.2) (RR.out.1),Nat.lt_of_lt_of_le (RR.out.2) g2.kp.size⟩;have iP:Hid (GR w1.drew x2 u0 v2 (lk++[(pw.toNat,8)]++[(pl.toNat,6)])):=Mu.out.trans g2;clear De g2;go_wp2_with fail
   refine hK.out _ _ (je u6.out) (fun aN=>?_);clear aD;clear hK K;try go_frame
   refine aH 7 (v2) rfl ?_;go_frame;refine wpAnyH_done (by kernel_rfl) ?_ _;go_wp2_with fail
   go_roundw
   case rel=>
    refine ⟨k+1,by omega,by go_num,?_⟩;rw [Ha.out,←List.append_assoc,HLK.out];have e:lk++fS (pw,pl)=lk++[(pw.toNat,8)]++[(pl.toNat,6)]:=by simp [fS]
    rw [e];exact (Xg.out.later (aG w1)).trans iP.out
   case measure=>simp [intOf];omega
  ·have iX:decide ((k:Int)<(n:Int))=false:=by simp;omega
   have e:L.take k=L:=List.take_of_length_le (by rw [HN.out];omega);rw [e] at HG;go_wp2_with fail
   go_ret;exact ⟨_,rfl,HG.out⟩
variable {w:World} {m:lZ} {x:Int}
section
variable {w0 w:World} {v:Value} {l:List (Nat×Int)}
theorem X6 (x q:Int) (h:nn x) (hG:GR w0 w (.slice none 0 0) v l) (hl:l.length≤20000):Calls prog 25 #[v,.int .i64 x,.int .i64 q] w fun e w'=>∃v',e=.returned v'∧GR w0 w' (.slice none 0 0) v' (l++[(x.toNat,q)]):=by
 refine (ik x q h.1 h.2 hG.row hl).mono ?_;rintro e w' ⟨v',he,g⟩;exact ⟨v',he,hG.trans g⟩
end
theorem df.cell {B:Nat} {vL vJ vI:Value} (h:df w B m vL vJ vI) (o:Nat) (v:Value) (e:(xE m vL vJ vI)[o]? =some v):w.cell? ⟨B,o,none⟩=some v:=(cell_of_row w B o _ _ _ h).trans (by simpa using e)
theorem V4 {k:Int×Int} (h:gK k=true):nn k.1∧nn k.2:=by
 have h:=h;unfold gK Rt.gd at h;simp only [Bool.and_eq_true,decide_eq_true_eq] at h;unfold nn;omega
theorem acz (h:gW x=true):nn x:=by
 unfold gW at h;simp only [Bool.and_eq_true,decide_eq_true_eq] at h;unfold nn;omega
theorem acB (h:gE x=true):nn x:=by
 unfold gE at h;simp only [Bool.and_eq_true,decide_eq_true_eq] at h;unfold nn;omega
theorem aaR {s:Int×Int} (h:gS s=true):nn s.1∧nn s.2:=by
 unfold gS at h;simp only [Bool.and_eq_true,decide_eq_true_eq] at h;refine ⟨acz h.1,?_⟩;unfold nn;omega
theorem Ye {x:Nat×Int} (h:okF x=true):x.1<18446744073709551616:=by
 unfold okF Bt.gw at h;simp only [Bool.and_eq_true,decide_eq_true_eq] at h;have h2:2^x.2.toNat≤2^64:=Nat.pow_le_pow_right (by decide) (by omega);have h3:(2:Nat)^64=18446744073709551616:=by decide
 omega
theorem NI {w0:World} {a:Option Addr} {c:Nat} (hg:gM m=true) (hG:GR w0 w (.slice none 0 0) (.slice a (fM m).length c) (fM m)):Calls prog 29 #[.slice a (fM m).length c] w fun e w'=>e=.returned (.tuple #[.string (EH m),.int .i64 0])∧Below w.heap.size w w':=by
 have h:=Bt.yL a c (fM m).length (fM m) rfl w (by have:=Zl hg;omega) (Ad hG.row (fun x hx=>by
  have:=WX hg x hx
  exact Ye this))
 rw [(WM hg).1,(WM hg).2] at h;exact h
theorem acA {i:(Int×Int)×((Int×Int)×(Int×Int))} (h:gI i=true):(nn i.1.1∧nn i.1.2)∧(nn i.2.1.1∧nn i.2.1.2)∧(nn i.2.2.1∧nn i.2.2.2):=by
 obtain ⟨⟨a,b⟩,c,d⟩:=Qo h;have a2:i.1.1<32:=a.2;have b2:i.1.2<128:=b.2;exact ⟨⟨⟨a.1,by omega⟩,⟨b.1,by omega⟩⟩,V4 c,V4 d⟩
theorem VV {L:List (Int×Int)} {aL:Option Addr} {cL:Nat} {vL:Value} (hv:Value.slice aL L.length cL=vL) (hg:∀x∈L,nn x.1∧nn x.2) (hn:L.length≤64) {w0 w:World} {v:Value} {l:List (Nat×Int)} (rd:iG iI 2 w0 aL L) (hG:GR w0 w (.slice none 0 0) v l) (hl:l.length≤10000):
  Calls prog 26 #[v,vL] w fun e w'=>∃v',e=.returned v'∧GR w0 w' (.slice none 0 0) v' (l++fL L):=by
 subst hv;exact KI L aL cL hg hn rd hG hl
end Go.Proofs.YtanaapfobpgibaaGreatDoor.Wi
