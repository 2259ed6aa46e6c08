/- Contract of the document's answer: Write. -/
import Derived.Test.YtanaapfobpgibaaGreatDoorJRcN
open Go.Proofs.Tryz
namespace Go.Proofs.YtanaapfobpgibaaGreatDoor.Rc
open Go.RowKit Go.Maps
open Rs (bM cell_later ar ah)
open Bt (JR ua ub)
set_option linter.unusedVariables false
set_option linter.unusedSimpArgs false
structure FW (w W:World) (B n0:Nat) (rc:Array Value) (v:Value) (l:List (Nat×Int)):Prop where
 rc:bh W B rc
 row:W.ownsRow n0 110 2 v l.length (ko l)
 aK:Below w.heap.size w W
 lt:B<n0
 wl:w.heap.size≤n0
 sz:n0≤W.heap.size
theorem FW.later {w W W':World} {B n0:Nat} {rc:Array Value} {v:Value} {l:List (Nat×Int)} (h:FW w W B n0 rc v l) (hb:Below W.heap.size W W'):FW w W' B n0 rc v l:=
 ⟨h.rc.later hb,ar h.row hb,h.aK.trans (hb.mono h.aK.size),h.lt,h.wl,Nat.le_trans h.sz hb.size⟩
theorem FW.app {w W W1:World} {B n0:Nat} {rc:Array Value} {v v':Value} {l m:List (Nat×Int)} (h:FW w W B n0 rc v l) (hown:W1.ownsRow n0 110 2 v' (l++m).length (ko (l++m))) (hg:W.grownBy W1 v.ownBlock):FW w W1 B n0 rc v' (l++m):=by
 have hB:=(Array.getElem?_eq_some_iff.1 h.rc).1;refine ⟨(hg.block B hB (Rs.b9 h.row h.lt)).trans h.rc,hown,?_,h.lt,h.wl,Nat.le_trans h.sz hg.size⟩
 exact Below.grown h.aK hg h.aK.size fun j hj=>by
  rcases Nat.lt_or_ge j n0 with hlt | BN
  ·exact absurd hj.symm (Rs.b9 h.row hlt)
  ·have:=h.wl;omega
theorem pR.later {w w':World} {B:Nat} {a b:Int} (h:pR w B a b) (hb:Below w.heap.size w w'):pR w' B a b:=(hb.block B (Array.getElem?_eq_some_iff.1 h).1).trans h
theorem AY (l m:List (Nat×Int)):ko (l++m)=ko l++ko m:=by simp [ko]
theorem abO {ops:Array Oper} {o:Oper} {a:Act} {w:World} {K:Act→World→Prop} {Q:Exit→Act→World→Prop} {E:Prop} (hw:Region.wanted o (yielded ops a.tmps)=true) (d:Tmp) (hd:o.dst=some d) (s x:Operand)
  (ho:o.op=.call {callee:=.builtin .append,args:=#[s,x],argTypes:=#[99,99]})
  (n0:Nat) (v:Value) (l:List (Nat×Int)) (hs:a.eval s=v) (hown:w.ownsRow n0 110 2 v l.length (ko l)) (g:Nat) (y z:Nat×Int) (hx:a.eval x=.slice (some ⟨g,0,none⟩) 2 2)
  (hnews:∀j u,[Value.int .u64 (y.1:Int),.int .i64 y.2,.int .u64 (z.1:Int),.int .i64 z.2][j]? =some u→w.cell? ((⟨g,0,none⟩:Addr).add j)=some u) (hl:l.length≤4096) (hb:n0≤w.heap.size)
  (h:∀v' w',w'.ownsRow n0 110 2 v' (l++[y,z]).length (ko (l++[y,z]))→w.grownBy w' v.ownBlock→K (a.put (some d) v') w'):
  if Region.wanted o (yielded ops a.tmps)=true then Oper.wp prog o a w K Q else E:=by
 obtain ⟨i0,hi,hz0,hz1,hz2⟩:=ir;rw [if_pos hw];refine wp_append_own w s x 99 ho n0 110 i0 _ 2 16 underlying99 hi hz0 hz1 hz2 rfl (by omega) v l.length (ko l) hs hown ⟨g,0,none⟩ 2 2 [Value.int .u64 (y.1:Int),.int .i64 y.2,.int .u64 (z.1:Int),.int .i64 z.2] hx rfl hnews (by simp [Value.oneCell']) (by unfold maxLen;omega) (by omega) hb ?_;intro v' w' h2 h3 h4;rw [hd];refine h v' w' ?_ h3;rw [AY,List.length_append];exact h2
set_option maxRecDepth 100000 in
set_option maxHeartbeats 4000000 in
theorem Fg (e f:Int) (aL aJ:Option Addr) (cL cJ:Nat) (L:List Int) (J:List (Int×Int)) (w:World) (rL:bM w aL L) (rJ:oQ w aJ J):
  Calls prog 14 #[.agg #[.int .i64 e,.int .i64 f,.slice aL L.length cL,.slice aJ J.length cJ]] w fun r w'=>r=.returned (.tuple #[.string (t_ e f L J),.int .i64 (Ma e f L J)])∧Below w.heap.size w w':=by
 have h1:=bh.new w #[.int .i64 e,.int .i64 f,.slice aL L.length cL,.slice aJ J.length cJ];have hb1:=aa w (.cells #[.int .i64 e,.int .i64 f,.slice aL L.length cL,.slice aJ J.length cJ] 70);have xG:=jw e f aL aJ cL cJ L J _ (rL.later hb1) (rJ.later hb1)
 cases hr:fw e f L J with
 | false=>
  rw [hr] at xG;have HE:Hid (t_ e f L J=⟨#[]⟩∧Ma e f L J=12):=by unfold Hid t_ Ma;rw [hr];exact ⟨rfl,rfl⟩
  clear hr rL rJ h1;generalize L.length=nL at *;generalize J.length=nJ at *;go_enter func14,ntmps14;go_wp2_with fail
  refine xG.mono ?_;rintro r w2 ⟨rfl,hb2⟩;have HB:Hid (Below w.heap.size w w2):=hb1.trans (hb2.mono hb1.size);clear hb1 hb2 xG;go_wp2_with fail
  go_ret2
  exact ⟨by rw [HE.out.1,HE.out.2];rfl,HB.out⟩
 | true=>
  rw [hr] at xG
  have HE:Hid (ua (dM e f L J)=t_ e f L J∧ub (dM e f L J)=0∧Ma e f L J=0):=by
   have:=VE hr;exact ⟨this.1,this.2,by unfold Ma;rw [hr];rfl⟩
  have HR:=ie.1 hr;clear hr;obtain ⟨ev,rfl⟩:∃ev:Nat,e=(ev:Int):=⟨e.toNat,by have:=HR.e1;omega⟩;obtain ⟨fv,rfl⟩:∃fv:Nat,f=(fv:Int):=⟨f.toNat,by have:=HR.f1;omega⟩;have ox:ev≤200:=by have:=HR.e2;omega
  have hfv:fv≤32768:=by have:=HR.f2;omega
  have wK:=HR.l1;have wL:=HR.j1;have zC:Hid (W6 (ev:Int) (fv:Int) L J):=HR;clear HR;obtain ⟨nL,ru⟩:∃n,L.length=n:=⟨_,rfl⟩;obtain ⟨nJ,ow⟩:∃n,J.length=n:=⟨_,rfl⟩;have pZ:Hid (L.length=nL):=ru;have lu:Hid (J.length=nJ):=ow;have HF:Hid (dM (ev:Int) (fv:Int) L J=[(ev,8),(fv,16),(nL,7)]++fL L++[(nJ,7)]++fJ J):=by unfold Hid dM;rw [ru,ow];simp
  simp only [ru,ow] at h1 hb1 xG;rw [ru] at wK ⊢;rw [ow] at wL ⊢;clear ru ow;go_enter func14,ntmps14;go_upto_region 1 with (fail)
  generalize w.alloc (.cells #[.int .i64 (ev:Int),.int .i64 (fv:Int),.slice aL nL cL,.slice aJ nJ cJ] 70)=w1 at *;obtain ⟨B,hB⟩:∃B,w.heap.size=B:=⟨_,rfl⟩;have fE:Hid (B<w1.heap.size):=by unfold Hid;rw [←hB];exact (Array.getElem?_eq_some_iff.1 h1).1
  rw [hB] at h1 ⊢;clear hB;obtain ⟨r0,r1,r2,r3⟩:=h1.cells;go_wp2_with fail
  refine xG.mono ?_;rintro r w2 ⟨rfl,hb2⟩;have bm:Hid (Below w.heap.size w w2):=hb1.trans (hb2.mono hb1.size);have h2:=h1.later hb2;have Xl:Hid (B<w2.heap.size):=Nat.lt_of_lt_of_le fE.out hb2.size;clear r0 r1 r2 r3 h1 xG hb1 hb2;go_upto_region 3 with (fail)
  have dm:bh w2.drew B #[.int .i64 (ev:Int),.int .i64 (fv:Int),.slice aL nL cL,.slice aJ nJ cJ]:=h2.later (aG _);have dR:Hid (Below w.heap.size w w2.drew):=bm.out.drew;have acb:Hid (B<w2.drew.heap.size):=Xl.out;have Ux:=g_ ev 8 (by omega);have hf2:=g_ fv 16 (by omega);have hf3:=g_ nL 7 (by omega);clear h2 bm Xl;refine wp_region_held_drew (S:=fun X=>bh X B #[.int .i64 (ev:Int),.int .i64 (fv:Int),.slice aL nL cL,.slice aJ nJ cJ]) (by kernel_rfl) dm (fun hHeld=>?_);refine aH 0 (.pointer (some ⟨B,0,none⟩)) rfl ?_;go_frame;refine dG 1 (.int .i64 (ev:Int)) rfl (fun w hSw=>by obtain ⟨z0,z1,z2,z3⟩:=bh.cells hSw;clear hSw;go_simp) ?_;go_frame;refine aH 3 (.pointer (some ⟨B,1,none⟩)) rfl ?_;go_frame;refine dG 4 (.int .i64 (fv:Int)) rfl (fun w hSw=>by obtain ⟨z0,z1,z2,z3⟩:=bh.cells hSw;clear hSw;go_simp) ?_;go_frame;refine aH 6 (.pointer (some ⟨B,2,none⟩)) rfl ?_;go_frame;refine dG 7 (.slice aL nL cL) rfl (fun w hSw=>by obtain ⟨z0,z1,z2,z3⟩:=bh.cells hSw;clear hSw;go_simp) ?_;go_frame;refine aH 8 (.int .i64 (nL:Int)) rfl ?_;go_frame;refine dh 2 rfl fun K hK=>?_;go_simp
  refine (Ux _).mono ?_;rintro r w3 ⟨rfl,hb3⟩;go_wp2_with fail
  refine hK.out _ _ (hHeld.later hb3) (fun aD=>?_);clear hHeld;clear hK K;try go_frame
  refine dh 5 rfl fun K hK=>?_;go_simp
  refine (hf2 _).mono ?_;rintro r w4 ⟨rfl,hb4⟩;go_wp2_with fail
  refine hK.out _ _ (aD.later hb4) (fun aN=>?_);clear aD;clear hK K;try go_frame
  refine dh 9 rfl fun K hK=>?_;go_simp
  refine (hf3 _).mono ?_;rintro r w5 ⟨rfl,dT⟩;go_wp2_with fail
  refine hK.out _ _ (aN.later dT) (fun bK=>?_);clear aN;clear hK K;try go_frame
  refine dh 10 rfl fun K hK=>?_;go_simp
  refine hK.out _ _ (bK.later (aa _ _)) (fun lU=>?_);clear bK;clear hK K;try go_frame
  refine aH 11 (.slice (some ⟨w5.heap.size,0,none⟩) 3 3) rfl ?_;go_frame;refine wpAnyH_done (by kernel_rfl) ?_ _;have R6:Hid (Below w.heap.size w w5):=((dR.out.trans (hb3.mono dR.out.size)).trans (hb4.mono (Nat.le_trans dR.out.size hb3.size))).trans (dT.mono (Nat.le_trans (Nat.le_trans dR.out.size hb3.size) hb4.size));have aca:Hid (B<w5.heap.size):=Nat.lt_of_lt_of_le acb.out (Nat.le_trans hb3.size (Nat.le_trans hb4.size dT.size))
  have hW6:FW w (w5.alloc (.cells #[.int .u64 (ev:Int),.int .i64 8,.int .u64 (fv:Int),.int .i64 16,.int .u64 (nL:Int),.int .i64 7] 110)) B w5.heap.size #[.int .i64 (ev:Int),.int .i64 (fv:Int),.slice aL nL cL,.slice aJ nJ cJ] (.slice (some ⟨w5.heap.size,0,none⟩) 3 3) [(ev,8),(fv,16),(nL,7)]:=
   ⟨lU,World.ownsRow_lit w5 _ 3 (Nat.le_refl _) (by unfold maxLen;omega) rfl,R6.out.alloc R6.out.size _,aca.out,R6.out.size,by simp⟩
  clear lU hb3 hb4 dT dR acb dm Ux hf2 hf3 R6 aca;generalize w5.alloc (.cells #[.int .u64 (ev:Int),.int .i64 8,.int .u64 (fv:Int),.int .i64 16,.int .u64 (nL:Int),.int .i64 7] 110)=w6 at *;generalize w5.heap.size=n0 at *;obtain ⟨r0,r1,r2,r3⟩:=hW6.rc.cells;obtain ⟨v6,hv6⟩:∃v:Value,v=.slice (some ⟨n0,0,none⟩) 3 3:=⟨_,rfl⟩;rw [←hv6] at hW6 ⊢;have HW6:Hid (FW w w6 B n0 #[.int .i64 (ev:Int),.int .i64 (fv:Int),.slice aL nL cL,.slice aJ nJ cJ] v6 ([(ev,8),(fv,16),(nL,7)]++fL (L.take 0))):=by unfold Hid;simpa [fL] using hW6
  clear hW6 hv6;obtain ⟨i0,hi,hz0,hz1,hz2⟩:=ir;go_wp2_with fail
  go_loopw [4,28] (fun v i wx=>∃k:Nat,k≤nL∧i=.int .i64 (k:Int)∧FW w wx B n0 #[.int .i64 (ev:Int),.int .i64 (fv:Int),.slice aL nL cL,.slice aJ nJ cJ] v ([(ev,8),(fv,16),(nL,7)]++fL (L.take k))) (fun _ i _=>nL - (intOf i).toNat)
  case atStart=>exact ⟨0,by omega,rfl,HW6.out⟩
  case round=>
   obtain ⟨k,hk,rfl,hG⟩:=hrel;have HG:Hid (FW w wr B n0 #[.int .i64 (ev:Int),.int .i64 (fv:Int),.slice aL nL cL,.slice aJ nJ cJ] u4 ([(ev,8),(fv,16),(nL,7)]++fL (L.take k))):=hG;obtain ⟨a1,k1,rfl⟩:=ah hG.row;have iO:Hid (([(ev,8),(fv,16),(nL,7)]++fL (L.take k):List (Nat×Int)).length≤4000):=by unfold Hid;simp;omega
   clear HW6 r0 r1 r2 r3 hG;by_cases cE:k<nL
   ·have Us:k<L.length:=by rw [pZ.out];exact cE
    obtain ⟨b,o,rfl,c0⟩:=rL k Us;have c0:=cell_later HG.out.aK c0;have i1:(0:Int)≤(k:Int):=by omega
    have i2:(k:Int)<(nL:Int):=by omega
    have HS:Hid (fL (L.take (k+1))=fL (L.take k)++[((L.getD k 0).toNat,8)]):=Jj Us;have hwx:=jX.1 (zC.out.lw _ (eJ 0 Us));obtain ⟨x,hx⟩:∃x:Nat,L.getD k 0=(x:Int):=⟨(L.getD k 0).toNat,by omega⟩;rw [hx] at c0 hwx HS;rw [Int.toNat_natCast] at HS;have Pn:x<256:=by omega
    have hf:=g_ x 8 (by omega);obtain ⟨l,hl⟩:∃l,[(ev,8),(fv,16),(nL,7)]++fL (L.take k)=l:=⟨_,rfl⟩;have eW:Hid ([(ev,8),(fv,16),(nL,7)]++fL (L.take (k+1))=l++[(x,8)]):=by unfold Hid;rw [HS.out,←List.append_assoc,hl]
    rw [hl] at HG iO ⊢;clear hx hwx Us rL rJ HS hl;go_wp2_with fail
    refine (hf _).mono ?_;rintro r w6 ⟨rfl,dS⟩;have Gm:=HG.out.later dS;have Vv:Hid (FW w w6 B n0 #[.int .i64 (ev:Int),.int .i64 (fv:Int),.slice (some ⟨b,o,none⟩) nL cL,.slice aJ nJ cJ] (.slice a1 l.length k1) l):=Gm;have hrow:=Gm.row;have hsz:=Gm.sz;have hlen:=iO.out;clear Gm dS hf HG c0;go_wp2_with (at_builtin;(refine wpList_append_own _ rfl _ _ 99 rfl n0 110 i0 (.agg #[.int .u64 0,.int .i64 0]) 2 16 underlying99 hi hz0 hz1 hz2 rfl (by decide) (.slice a1 l.length k1) l.length (ko l) rfl (hrow.alloc _) ⟨w6.heap.size,0,none⟩ 1 1 [.int .u64 (x:Int),.int .i64 8] rfl rfl (bD _ _ _) (by simp [Value.oneCell']) (by unfold maxLen;omega) (by omega) (by simp;omega) ?_);intro v' w7 hown' pY _;obtain ⟨a2,k2,rfl⟩:=ah hown';have HO7:Hid (w7.ownsRow n0 110 2 (.slice a2 (l.length+1) k2) (l.length+1) (ko l++[.int .u64 (x:Int),.int .i64 8])):=hown';have EJ:Hid ((w6.alloc (.cells #[.int .u64 (x:Int),.int .i64 8] 110)).grownBy w7 (Value.slice a1 l.length k1).ownBlock):=pY;clear hown' pY)
    go_roundw
    case rel=>exact ⟨k+1,by omega,by go_num,by rw [eW.out];exact (Vv.out.later (aa _ _)).app (m:=[(x,8)]) (by rw [AY,List.length_append];exact HO7.out) EJ.out⟩
    case measure=>simp [intOf];omega
   ·have iX:decide ((k:Int)<(nL:Int))=false:=by simp;omega
    have hf:=g_ nJ 7 (by omega);have e:L.take k=L:=List.take_of_length_le (by rw [pZ.out];omega);rw [e] at HG iO ⊢;clear e;obtain ⟨l,hl⟩:∃l,[(ev,8),(fv,16),(nL,7)]++fL L=l:=⟨_,rfl⟩;have HL:Hid ([(ev,8),(fv,16),(nL,7)]++fL L=l):=hl;rw [hl] at HG iO ⊢;clear hl rL;obtain ⟨r0,r1,r2,r3⟩:=HG.out.rc.cells;go_wp2_with fail
    refine (hf _).mono ?_;rintro r w6 ⟨rfl,dS⟩;have Gm:=HG.out.later dS;have Vv:Hid (FW w w6 B n0 #[.int .i64 (ev:Int),.int .i64 (fv:Int),.slice aL nL cL,.slice aJ nJ cJ] (.slice a1 l.length k1) l):=Gm;have hrow:=Gm.row;have hsz:=Gm.sz;have hlen:=iO.out;clear Gm dS hf HG r0 r1 r2 r3
    have HZ7:Hid (∀W',(w6.alloc (.cells #[.int .u64 (nJ:Int),.int .i64 7] 110)).grownBy W' (Value.slice a1 l.length k1).ownBlock→W'.cell? ⟨B,3,none⟩=some (.slice aJ nJ cJ)):=fun W' hg=>by
     have h:=Vv.out.later (aa w6 (.cells #[.int .u64 (nJ:Int),.int .i64 7] 110));have hB:=(Array.getElem?_eq_some_iff.1 h.rc).1;exact (bh.cells ((hg.block B hB (Rs.b9 h.row h.lt)).trans h.rc)).2.2.2
    go_upto_region 10 with (at_builtin;(refine wpList_append_own _ rfl _ _ 99 rfl n0 110 i0 (.agg #[.int .u64 0,.int .i64 0]) 2 16 underlying99 hi hz0 hz1 hz2 rfl (by decide) (.slice a1 l.length k1) l.length (ko l) rfl (hrow.alloc _) ⟨w6.heap.size,0,none⟩ 1 1 [.int .u64 (nJ:Int),.int .i64 7] rfl rfl (bD _ _ _) (by simp [Value.oneCell']) (by unfold maxLen;omega) (by omega) (by simp;omega) ?_);intro v' w7 hown' pY _;obtain ⟨a2,k2,rfl⟩:=ah hown';have HO7:Hid (w7.ownsRow n0 110 2 (.slice a2 (l.length+1) k2) (l.length+1) (ko l++[.int .u64 (nJ:Int),.int .i64 7])):=hown';have EJ:Hid ((w6.alloc (.cells #[.int .u64 (nJ:Int),.int .i64 7] 110)).grownBy w7 (Value.slice a1 l.length k1).ownBlock):=pY;clear hown' pY)
    have r3:=HZ7.out _ EJ.out
    have HW7:Hid (FW w w7 B n0 #[.int .i64 (ev:Int),.int .i64 (fv:Int),.slice aL nL cL,.slice aJ nJ cJ] (.slice a2 (l.length+1) k2) (l++[(nJ,7)]++fJ (J.take 0))):=by
     have h:=(Vv.out.later (aa _ _)).app (m:=[(nJ,7)]) (by rw [AY,List.length_append];exact HO7.out) EJ.out;unfold Hid
     simpa [fJ] using h
    have adA:Hid (l.length≤4+nL):=by
     unfold Hid;rw [←HL.out];simp;have:=pZ.out;omega
    clear Vv HO7 EJ HZ7 hrow hsz hlen iO;obtain ⟨v7,hv7⟩:∃v:Value,v=.slice a2 (l.length+1) k2:=⟨_,rfl⟩;rw [←hv7] at HW7 ⊢;clear hv7;go_wp2_with fail
    go_loopw [4,48] (fun v i wx=>∃m:Nat,m≤nJ∧i=.int .i64 (m:Int)∧FW w wx B n0 #[.int .i64 (ev:Int),.int .i64 (fv:Int),.slice aL nL cL,.slice aJ nJ cJ] v (l++[(nJ,7)]++fJ (J.take m))) (fun _ i _=>nJ - (intOf i).toNat)
    case atStart=>exact ⟨0,by omega,rfl,HW7.out⟩
    case round=>
     obtain ⟨m,hm,rfl,hG⟩:=hrel;have HG:Hid (FW w wr B n0 #[.int .i64 (ev:Int),.int .i64 (fv:Int),.slice aL nL cL,.slice aJ nJ cJ] u4 (l++[(nJ,7)]++fJ (J.take m))):=hG;obtain ⟨a3,k3,rfl⟩:=ah hG.row;have HLM:Hid ((l++[(nJ,7)]++fJ (J.take m):List (Nat×Int)).length≤4000):=by unfold Hid;have:=adA.out;simp;omega
     clear HW7 r3 hG;by_cases hmn:m<nJ
     ·have hmJ:m<J.length:=by rw [lu.out];exact hmn
      obtain ⟨b,o,rfl,c0,c1⟩:=rJ m hmJ;have c0:=cell_later HG.out.aK c0;have c1:=cell_later HG.out.aK c1;have i1:(0:Int)≤(m:Int):=by omega
      have i2:(m:Int)<(nJ:Int):=by omega
      have HS:Hid (fJ (J.take (m+1))=fJ (J.take m)++[((J.getD m (0,0)).1.toNat,8)]++[((J.getD m (0,0)).2.toNat,6)]):=Jk hmJ;have Sd:=j7.1 (zC.out.js _ (eJ (0,0) hmJ));obtain ⟨x,hx⟩:∃x:Nat,(J.getD m (0,0)).1=(x:Int):=⟨(J.getD m (0,0)).1.toNat,by omega⟩;obtain ⟨y,hy⟩:∃y:Nat,(J.getD m (0,0)).2=(y:Int):=⟨(J.getD m (0,0)).2.toNat,by omega⟩;rw [hx] at c0 Sd HS;rw [hy] at c1 Sd HS;rw [Int.toNat_natCast,Int.toNat_natCast] at HS;have Pn:x<256:=by omega
      have acQ:y<64:=by omega
      have Ux:=g_ x 8 (by omega);have hf2:=g_ y 6 (by omega);obtain ⟨lm,BM⟩:∃l',l++[(nJ,7)]++fJ (J.take m)=l':=⟨_,rfl⟩;have eW:Hid (l++[(nJ,7)]++fJ (J.take (m+1))=lm++[(x,8),(y,6)]):=by unfold Hid;rw [HS.out,←BM];simp
      rw [BM] at HG HLM ⊢;have Dn:pR (wr.alloc (.cells #[.int .i64 (x:Int),.int .i64 (y:Int)] 113)) wr.heap.size (x:Int) (y:Int):=heap_alloc_last wr _;have Qa:=HG.out.later (aa wr (.cells #[.int .i64 (x:Int),.int .i64 (y:Int)] 113));clear hx hy Sd hmJ rJ HS BM HG;go_upto_region 13 with (fail)
      generalize wr.alloc (.cells #[.int .i64 (x:Int),.int .i64 (y:Int)] 113)=wa at *;generalize wr.heap.size=A at *;have dm:pR wa.drew A (x:Int) (y:Int):=Dn;have Xh:Hid (FW w wa.drew B n0 #[.int .i64 (ev:Int),.int .i64 (fv:Int),.slice aL nL cL,.slice (some ⟨b,o,none⟩) nJ cJ] (.slice a3 lm.length k3) lm):=Qa.later (aG _);clear Dn Qa c0 c1;refine wp_region_held_drew (S:=fun X=>pR X A (x:Int) (y:Int)) (by kernel_rfl) dm (fun hHeld=>?_);refine aH 0 (.slice a3 lm.length k3) rfl ?_;go_frame;refine aH 1 (.pointer (some ⟨A,0,none⟩)) rfl ?_;go_frame;refine dG 2 (.int .i64 (x:Int)) rfl (fun w hSw=>by obtain ⟨z0,z1⟩:=pR.cells hSw;clear hSw;go_simp) ?_;go_frame;refine aH 4 (.pointer (some ⟨A,1,none⟩)) rfl ?_;go_frame;refine dG 5 (.int .i64 (y:Int)) rfl (fun w hSw=>by obtain ⟨z0,z1⟩:=pR.cells hSw;clear hSw;go_simp) ?_;go_frame;refine dh 3 rfl fun K hK=>?_;go_simp
      refine (Ux _).mono ?_;rintro r w3 ⟨rfl,hb3⟩;go_wp2_with fail
      have oT:Hid (FW w w3 B n0 #[.int .i64 (ev:Int),.int .i64 (fv:Int),.slice aL nL cL,.slice (some ⟨b,o,none⟩) nJ cJ] (.slice a3 lm.length k3) lm):=Xh.out.later hb3;refine hK.out _ _ (hHeld.later hb3) (fun aD=>?_);clear hHeld hb3 Xh;clear hK K;try go_frame
      refine dh 6 rfl fun K hK=>?_;go_simp
      refine (hf2 _).mono ?_;rintro r w4 ⟨rfl,hb4⟩;go_wp2_with fail
      have uu:Hid (FW w w4 B n0 #[.int .i64 (ev:Int),.int .i64 (fv:Int),.slice aL nL cL,.slice (some ⟨b,o,none⟩) nJ cJ] (.slice a3 lm.length k3) lm):=oT.out.later hb4;refine hK.out _ _ (aD.later hb4) (fun aN=>?_);clear aD hb4 oT;clear hK K;try go_frame
      refine dh 7 rfl fun K hK=>?_;go_simp
      refine hK.out _ _ (aN.later (aa _ _)) (fun bK=>?_);clear aN;clear hK K;try go_frame
      refine dh 8 rfl fun Kc hK=>?_;have hG5:=uu.out.later (aa w4 (.cells #[.int .u64 (x:Int),.int .i64 8,.int .u64 (y:Int),.int .i64 6] 110));refine abO rfl 60 rfl _ _ rfl n0 (.slice a3 lm.length k3) lm rfl hG5.row w4.heap.size (x,8) (y,6) rfl (bD _ _ _) (by have:=HLM.out;omega) hG5.sz ?_;intro v9 w9 Pz hg9;obtain ⟨a9,k9,rfl⟩:=ah Pz;have HG9:Hid (FW w w9 B n0 #[.int .i64 (ev:Int),.int .i64 (fv:Int),.slice aL nL cL,.slice (some ⟨b,o,none⟩) nJ cJ] (.slice a9 (lm++[(x,8),(y,6)]).length k9) (lm++[(x,8),(y,6)])):=hG5.app Pz hg9;refine hK.out _ _ ((hg9.block A (Array.getElem?_eq_some_iff.1 bK).1 (kP hG5.row bK (by decide))).trans bK) (fun lU=>?_);clear bK hG5 Pz hg9 uu;clear hK Kc;try go_frame
      refine aH 9 (.slice a9 (lm++[(x,8),(y,6)]).length k9) rfl ?_;go_frame;refine wpAnyH_done (by kernel_rfl) ?_ _;obtain ⟨nn,yb⟩:∃n,(lm++[(x,8),(y,6)]:List (Nat×Int)).length=n:=⟨_,rfl⟩;have yr:Hid ((lm++[(x,8),(y,6)]:List (Nat×Int)).length=nn):=yb;rw [yb] at HG9 ⊢;clear yb;go_wp2_with fail
      go_roundw
      case rel=>exact ⟨m+1,by omega,by go_num,by rw [eW.out];exact HG9.out⟩
      case measure=>simp [intOf];omega
     ·have ac8:decide ((m:Int)<(nJ:Int))=false:=by simp;omega
      have e:J.take m=J:=List.take_of_length_le (by rw [lu.out];omega);rw [e,←HL.out,←HF.out] at HG;rw [e,←HL.out,←HF.out]
      have Xd:Hid ((dM (ev:Int) (fv:Int) L J).length≤16777216):=by
       unfold Hid;rw [tJ];have:=pZ.out;have:=lu.out;omega
      have fV:=Ad HG.out.row (fun x hx=>by
       have:=Bt.jk (zC.out.fit.ok x hx);have h2:2^x.2.toNat≤2^64:=Nat.pow_le_pow_right (by decide) (by omega)
       omega)
      have BJ:=Bt.yL a3 k3 _ (dM (ev:Int) (fv:Int) L J) rfl wr Xd.out fV;rw [HE.out.1,HE.out.2.1] at BJ;have HBR:Hid (Below w.heap.size w wr):=HG.out.aK;clear HG fV e;generalize (dM (ev:Int) (fv:Int) L J).length=FN at *;go_wp2_with fail
      refine BJ.mono ?_;rintro r w4 ⟨rfl,hb4⟩;clear BJ;go_wp2_with fail
      go_ret2
      exact ⟨by rw [HE.out.2.2];rfl,HBR.out.trans (hb4.mono HBR.out.size)⟩
end Go.Proofs.YtanaapfobpgibaaGreatDoor.Rc
