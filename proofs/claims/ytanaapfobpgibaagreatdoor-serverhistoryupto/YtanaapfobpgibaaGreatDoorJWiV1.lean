/- WiV1, WiF, WiH, WiI, joined. -/
import Derived.Test.YtanaapfobpgibaaGreatDoorJWiW
open Go.Proofs.Tryz
set_option maxHeartbeats 2000000
namespace Go.Proofs.YtanaapfobpgibaaGreatDoor.Wi
open Go.RowKit Go.Maps
open Bt (Wr Fw Kept bo a_ tb bT bA a8 tx pk)
open Rt (gd)
set_option linter.unusedVariables false
set_option linter.unusedSimpArgs false
/- The kinds of right messages. -/
set_option maxRecDepth 100000 in
theorem QD (m:lZ) (aL aJ aI:Option Addr) (cL cJ cI:Nat) (w:World) (hr:MR w m aL aJ aI) (hg:gM m=true) (k1:m.kd=1):
  Calls prog 74 #[.agg (CU m aL aJ aI cL cJ cI).toArray] w fun e w'=>e=.returned (.tuple #[.string (EH m),.int .i64 0])∧Below w.heap.size w w':=by
 have HR:Hid (MR w m aL aJ aI):=hr;have hG:=fun W (hb:Below w.heap.size w W)=>Zb m aL aJ aI cL cJ cI W (hr.later hb) k1
 clear hr;unfold CU at hG ⊢;have hM:df (w.alloc (.cells (xE m (.slice aL m.rk.2.1.length cL) (.slice aJ m.rk.2.2.1.length cJ) (.slice aI m.rk.2.2.2.length cI)).toArray 68)) w.heap.size m (.slice aL m.rk.2.1.length cL) (.slice aJ m.rk.2.2.1.length cJ) (.slice aI m.rk.2.2.2.length cI):=heap_alloc_last w _;have hB:=aa w (.cells (xE m (.slice aL m.rk.2.1.length cL) (.slice aJ m.rk.2.2.1.length cJ) (.slice aI m.rk.2.2.2.length cI)).toArray 68);have HLS:Hid (∃nL nJ nI,m.rk.2.1.length=nL∧m.rk.2.2.1.length=nJ∧m.rk.2.2.2.length=nI):=⟨_,_,_,rfl,rfl,rfl⟩;obtain ⟨nL,nJ,nI,wK,wL,IJ⟩:=HLS.out;simp only [wK,wL,IJ] at hG hM hB;rw [wK,wL,IJ];have Et:Hid (m.rk.2.1.length=nL∧m.rk.2.2.1.length=nJ∧m.rk.2.2.2.length=nI):=⟨wK,wL,IJ⟩;clear wK wL IJ HLS;obtain ⟨ct,bQ⟩:∃c,(xE m (.slice aL nL cL) (.slice aJ nJ cJ) (.slice aI nI cI)).toArray=c:=⟨_,rfl⟩;have HCT:Hid ((xE m (.slice aL nL cL) (.slice aJ nJ cJ) (.slice aI nI cI)).toArray=ct):=bQ;rw [bQ] at hB;rw [bQ];have HM:Hid (df (w.alloc (.cells ct 68)) w.heap.size m (.slice aL nL cL) (.slice aJ nJ cJ) (.slice aI nI cI)):=by have h:=hM;rw [bQ] at h;exact h
 clear hM bQ;simp only [hg] at hG
 have PQ:m.kd=1∧xZ m.rk∧eM m=bo 0 2++eR m.rk:=by
  rcases UJ hg with h | ⟨h,-⟩ | ⟨h,-⟩ | ⟨h,-⟩
  ·exact h
  all_goals (rw [k1] at h;cases h)
 have HE:Hid (EH m=tx (pk (eM m))∧U4 m=0):=by unfold Hid EH U4;rw [hg];exact ⟨rfl,rfl⟩
 rw [HE.out.1];clear hg HE k1;have hG:=hG _ hB;have HK:Hid _:=PQ;clear PQ;go_enter func74,ntmps74;go_upto_region 1 with (fail)
 generalize w.alloc (.cells ct 68)=w1 at *;obtain ⟨B,tI⟩:∃B,w.heap.size=B:=⟨_,rfl⟩;have HBe:Hid (w.heap.size=B):=tI;rw [tI] at HM ⊢;clear tI;have HA:Hid _:=HM.out.all;have dV:Hid (Below w.heap.size w w1):=hB;clear hB;go_wp2_with (refine kg HA.out underlying68 rfl S9 _ rfl rfl rfl ?_)
 refine hG.mono ?_;rintro e w2 ⟨rfl,hb2⟩;have bm:Hid (Below w.heap.size w w2):=Below.join dV.out hb2;have JV:Hid (df w2 B m (.slice aL nL cL) (.slice aJ nJ cJ) (.slice aI nI cI)):=HM.out.later hb2;clear hb2 hG HA dV HM;go_upto_region 4 with (go_at_call 113;refine (Bt.qo _).mono ?_;rintro r w' ⟨rfl,rfl⟩)
 have hw3:=Wr.new w2;have hb3:=aa w2 (.cells #[.int .i64 0,.slice none 0 0] 268);have P8:=JV.out.later hb3;have Uf:(w2.alloc (.cells #[.int .i64 0,.slice none 0 0] 268)).heap.size=w2.heap.size+1:=by simp
 have HF:Hid (∀k,Fw w2.heap.size (.slice none 0 0) k→w.heap.size≤k):=by
  intro k hf;rcases hf with rfl | hf
  ·exact bm.out.size
  ·cases hf
 have L1:Hid (Below w.heap.size w (w2.alloc (.cells #[.int .i64 0,.slice none 0 0] 268))):=Below.join bm.out hb3;rw [←Uf] at hw3;obtain ⟨g,BN⟩:∃g,w2.heap.size=g:=⟨_,rfl⟩;rw [BN] at hw3 HF Uf;try simp only [BN]
 have BV:Hid (w2.heap.size=g):=BN;clear BN hb3;generalize w2.alloc (.cells #[.int .i64 0,.slice none 0 0] 268)=w3 at *
 have B1:Hid (WB w3.heap.size g w3 (w3.alloc (.cells #[.pointer (some ⟨g,0,none⟩)] 224)) (.slice none 0 0) (.slice none 0 0) [] w3.heap.size B (.cells #[.pointer (some ⟨g,0,none⟩)] 224) (.cells (xE m (.slice aL nL cL) (.slice aJ nJ cJ) (.slice aI nI cI)).toArray 68)):=by
  refine ⟨hw3.alloc _,by simp,(oB.refl _ _ _).alloc _,heap_alloc_last _ _,P8.later (aa _ _),fun hf=>?_,fun hf=>?_⟩
  ·have:=hw3.kB _ hf;omega
  ·rcases hf with h | h
   ·have:=mB JV.out;have:=BV.out;omega
   ·cases h
 rw [show g+1=w3.heap.size from Uf.symm];obtain ⟨OC,Mi⟩:∃o,o=Obj.cells #[.pointer (some ⟨g,0,none⟩)] 224:=⟨_,rfl⟩;have HOC:Hid (OC=Obj.cells #[.pointer (some ⟨g,0,none⟩)] 224):=Mi;rw [←Mi] at B1;rw [←Mi];clear Mi hw3 P8;generalize w3.alloc OC=w4 at *;have HB:Hid _:=B1;obtain ⟨n0,gZ⟩:∃n,w3.heap.size=n:=⟨_,rfl⟩;rw [gZ] at B1;rw [gZ];have HB:Hid (WB n0 g w3 w4 (.slice none 0 0) (.slice none 0 0) [] n0 B OC (.cells (xE m (.slice aL nL cL) (.slice aJ nJ cJ) (.slice aI nI cI)).toArray 68)):=B1;clear B1 gZ Uf JV BV bm;have Mj:df w4 B m (.slice aL nL cL) (.slice aJ nJ cJ) (.slice aI nI cI):=HB.out.hd;have ck:=Mj.kind;have c0:=c1' (HOC.out ▸ HB.out.hc);clear Mj;obtain ⟨YN,lS,hem⟩:=HK.out;rw [YN] at ck;have HEM:Hid (eM m=_):=hem;clear hem HK;have hp:=dp n0 g 0 2 [] (.slice none 0 0) w4 (by omega) (by omega) (by decide) HB.out.sz HB.out.wr (by simp);go_wp2_with fail
 refine hp.mono ?_;rintro e w5 ⟨rfl,hp5⟩;obtain ⟨x5,dT⟩:=HB.out.next hp5;rw [List.nil_append] at dT;clear hp hp5 HB c0 ck;have hM5:df w5 B m (.slice aL nL cL) (.slice aJ nJ cJ) (.slice aI nI cI):=dT.hd;have ck:=hM5.kind;rw [YN] at ck;have c0:=c1' (HOC.out ▸ dT.hc);have HB:Hid (WB n0 g w3 w5 (.slice none 0 0) x5 (bo 0 2) n0 B OC (.cells (xE m (.slice aL nL cL) (.slice aJ nJ cJ) (.slice aI nI cI)).toArray 68)):=dT;have HP:Hid _:=hM5.rk;have hp:=EO n0 g m.rk aL aJ aI cL cJ cI (bo 0 2) x5 w5 lS HB.out.sz HB.out.wr (by simp) (fun W' x' h=>iG.of (N:=0) HR.out.l L1.out (HB.out.st.trans h) HF.out) (fun W' x' h=>iG.of (N:=0) HR.out.j L1.out (HB.out.st.trans h) HF.out) (fun W' x' h=>iG.of (N:=0) HR.out.i L1.out (HB.out.st.trans h) HF.out);rw [Et.out.1,Et.out.2.1,Et.out.2.2] at hp;clear lS dT hM5 YN;go_wp2_with (refine kg HP.out underlying54 rfl Ka _ rfl rfl rfl ?_)
 refine hp.mono ?_;rintro e w6 ⟨rfl,hp6⟩;obtain ⟨x6,dS⟩:=HB.out.next hp6;clear hp hp6 HB c0 ck;have c0:=c1' (HOC.out ▸ dS.hc);have HBF:Hid (Below w.heap.size w w6):=L1.out.trans (dS.st.below L1.out.size HF.out);have hy:=Bt.kZ n0 g _ x6 w6 dS.wr;rw [←HEM.out] at hy;clear dS;go_wp2_with fail
 refine hy.mono ?_;rintro e w7 ⟨rfl,rfl⟩;go_wp2_with fail
 go_ret2
 exact ⟨rfl,HBF.out⟩
theorem td {w:World} {o:Oper} {a:Act} {B off:Nat} {T:TypeId} {d:TypeDesc} {cs:List Value} {x:Operand} (hc:w.rangeAt B off cs) (hu:prog.underlying T=some d) (hd:d.isRow=true) (hi:(prog.info? T).map (·.size)=some cs.length) (ho:o.op=.load T x) (hx:a.eval x=.pointer (some ⟨B,off,none⟩)):
  (execOp a.eval o).run prog w=.ok (.value (.agg cs.toArray)) w:=by
 have h:=run_loadAt_mid w B off T cs d hc hu hd hi;simp [execOp,ho,hx,h,Sem.run_bind,Result.andThen]
theorem Jm {α:Type} {l l':List α} {k:Nat} (h:k<l.length) (h':k<l'.length) (e:l.take k=l'.take k) (x:l[k]=l'[k]):l.take (k+1)=l'.take (k+1):=by
 rw [List.take_succ_eq_append_getElem h,List.take_succ_eq_append_getElem h',e,x]
set_option maxRecDepth 100000 in
theorem yB (a a':Option Addr) (c c':Nat) (l l':List (Int×Int)) (w:World) (h1:iG iI 2 w a l) (h2:iG iI 2 w a' l') (hl:l.length<4611686018427387904) (hl':l'.length<4611686018427387904):
  Calls prog 88 #[.slice a l.length c,.slice a' l'.length c'] w fun e w'=>(∃b,e=.returned (.bool b)∧(b=true↔l=l'))∧Below w.heap.size w w':=by
 obtain ⟨n,hn⟩:∃n,l.length=n:=⟨_,rfl⟩;obtain ⟨n',Uo⟩:∃n,l'.length=n:=⟨_,rfl⟩;have HN:Hid (l.length=n∧l'.length=n'):=⟨hn,Uo⟩;rw [hn] at hl;rw [Uo] at hl';rw [hn,Uo];clear hn Uo;by_cases hne:n=n'
 ·subst hne;have d0:((n:Int) !=(n:Int))=false:=by simp
  go_enter func88,ntmps88;go_wp2_with fail
  go_loopw [13] (fun i wx=>∃k:Nat,k≤n∧i=.int .i64 (k:Int)∧l.take k=l'.take k∧Below w.heap.size w wx) (fun i _=>n - (intOf i).toNat)
  case atStart=>exact ⟨0,by omega,rfl,rfl,Below.refl _ _⟩
  case round=>
   obtain ⟨k,hk,rfl,hE,hb⟩:=hrel;have HE:Hid (l.take k=l'.take k):=hE;have HB:Hid (Below w.heap.size w wr):=hb;clear hE hb;by_cases cE:k<n
   ·have iw:k<l.length:=by rw [HN.out.1];exact cE
    have PO:k<l'.length:=by rw [HN.out.2];exact cE
    have i1:(0:Int)≤(k:Int):=by omega
    have i2:(k:Int)<(n:Int):=by omega
    obtain ⟨b,o,rfl,r1⟩:=h1 k iw;obtain ⟨b',o',rfl,r2⟩:=h2 k PO;have r1:=ej r1 HB.out;have r2:=ej r2 HB.out;by_cases F_:l[k]=l'[k]
    ·have HX:Hid (l.take (k+1)=l'.take (k+1)):=Jm iw PO HE.out F_;have hd:decide (l[k]=l'[k])=true:=decide_eq_true F_;generalize l[k]=p at *;generalize l'[k]=p2 at *;go_upto_region 6 with (fail)
     have dm:wr.drew.rangeAt b (o+k * 2) (iI p)∧wr.drew.rangeAt b' (o'+k * 2) (iI p2):=⟨r1,r2⟩;clear r1 r2 F_;refine wp_region_held_drew (S:=fun W=>W.rangeAt b (o+k * 2) (iI p)∧W.rangeAt b' (o'+k * 2) (iI p2)) (by kernel_rfl) dm (fun hHeld=>?_);refine aH 0 (.slice (some ⟨b,o,none⟩) n c) rfl ?_;go_frame;refine aH 1 (.int .i64 (k:Int)) rfl ?_;go_frame;refine aH 2 (.pointer (some ⟨b,o+k * 2,none⟩)) rfl ?_;go_frame;refine dG 3 (.agg (iI p).toArray) rfl (fun w hSw=>td hSw.1 underlying113 rfl ju rfl rfl) ?_;go_frame;refine aH 4 (.slice (some ⟨b',o',none⟩) n c') rfl ?_;go_frame;refine aH 5 (.int .i64 (k:Int)) rfl ?_;go_frame;refine aH 6 (.pointer (some ⟨b',o'+k * 2,none⟩)) rfl ?_;go_frame;refine dG 7 (.agg (iI p2).toArray) rfl (fun w hSw=>td hSw.2 underlying113 rfl ju rfl rfl) ?_;go_frame;refine dG 8 (.bool (!true)) rfl (fun w hSw=>uH (hd ▸ qb 113 (w:=w) 9998 p p2 (.inr (.inl rfl))) eqGuardType113 rfl rfl rfl) ?_;go_frame;refine wpAnyH_done (by kernel_rfl) ?_ _;go_wp2_with fail
     go_roundw
     case rel=>exact ⟨k+1,by omega,by go_num,HX.out,Below.join HB.out (aG wr)⟩
     case measure=>simp [intOf];omega
    ·have HX:Hid (l≠l'):=fun e=>F_ (by subst e;rfl)
     have hd:decide (l[k]=l'[k])=false:=decide_eq_false F_;generalize l[k]=p at *;generalize l'[k]=p2 at *;go_upto_region 6 with (fail)
     have dm:wr.drew.rangeAt b (o+k * 2) (iI p)∧wr.drew.rangeAt b' (o'+k * 2) (iI p2):=⟨r1,r2⟩;clear r1 r2 F_;refine wp_region_held_drew (S:=fun W=>W.rangeAt b (o+k * 2) (iI p)∧W.rangeAt b' (o'+k * 2) (iI p2)) (by kernel_rfl) dm (fun hHeld=>?_);refine aH 0 (.slice (some ⟨b,o,none⟩) n c) rfl ?_;go_frame;refine aH 1 (.int .i64 (k:Int)) rfl ?_;go_frame;refine aH 2 (.pointer (some ⟨b,o+k * 2,none⟩)) rfl ?_;go_frame;refine dG 3 (.agg (iI p).toArray) rfl (fun w hSw=>td hSw.1 underlying113 rfl ju rfl rfl) ?_;go_frame;refine aH 4 (.slice (some ⟨b',o',none⟩) n c') rfl ?_;go_frame;refine aH 5 (.int .i64 (k:Int)) rfl ?_;go_frame;refine aH 6 (.pointer (some ⟨b',o'+k * 2,none⟩)) rfl ?_;go_frame;refine dG 7 (.agg (iI p2).toArray) rfl (fun w hSw=>td hSw.2 underlying113 rfl ju rfl rfl) ?_;go_frame;refine dG 8 (.bool (!false)) rfl (fun w hSw=>uH (hd ▸ qb 113 (w:=w) 9998 p p2 (.inr (.inl rfl))) eqGuardType113 rfl rfl rfl) ?_;go_frame;refine wpAnyH_done (by kernel_rfl) ?_ _;go_wp2_with fail
     go_ret;exact ⟨⟨false,rfl,by simp;exact HX.out⟩,Below.join HB.out (aG wr)⟩
   ·have iX:decide ((k:Int)<(n:Int))=false:=by simp;omega
    have HX:Hid (l=l'):=by
     have e:=HE.out;rw [List.take_of_length_le (by rw [HN.out.1];omega),List.take_of_length_le (by rw [HN.out.2];omega)] at e;exact e
    go_wp2_with fail
    go_ret;exact ⟨⟨true,rfl,by simp;exact HX.out⟩,HB.out⟩
 ·have HX:Hid (l≠l'):=fun e=>hne (by rw [←HN.out.1,←HN.out.2,e])
  have d0:((n:Int) !=(n':Int))=true:=by simp;omega
  have d1:¬(n:Int)=(n':Int):=by omega
  go_enter func88,ntmps88;go_wp2_with fail
  go_ret;exact ⟨⟨false,rfl,by simp;exact HX.out⟩,Below.refl _ _⟩
set_option maxRecDepth 100000 in
theorem Kp (a a':Option Addr) (c c':Nat) (l l':List ((Int×Int)×((Int×Int)×(Int×Int)))) (w:World) (h1:iG mW 6 w a l) (h2:iG mW 6 w a' l') (hl:l.length<4611686018427387904) (hl':l'.length<4611686018427387904):
  Calls prog 89 #[.slice a l.length c,.slice a' l'.length c'] w fun e w'=>(∃b,e=.returned (.bool b)∧(b=true↔l=l'))∧Below w.heap.size w w':=by
 obtain ⟨n,hn⟩:∃n,l.length=n:=⟨_,rfl⟩;obtain ⟨n',Uo⟩:∃n,l'.length=n:=⟨_,rfl⟩;have HN:Hid (l.length=n∧l'.length=n'):=⟨hn,Uo⟩;rw [hn] at hl;rw [Uo] at hl';rw [hn,Uo];clear hn Uo;by_cases hne:n=n'
 ·subst hne;have d0:((n:Int) !=(n:Int))=false:=by simp
  go_enter func89,ntmps89;go_wp2_with fail
  go_loopw [13] (fun i wx=>∃k:Nat,k≤n∧i=.int .i64 (k:Int)∧l.take k=l'.take k∧Below w.heap.size w wx) (fun i _=>n - (intOf i).toNat)
  case atStart=>exact ⟨0,by omega,rfl,rfl,Below.refl _ _⟩
  case round=>
   obtain ⟨k,hk,rfl,hE,hb⟩:=hrel;have HE:Hid (l.take k=l'.take k):=hE;have HB:Hid (Below w.heap.size w wr):=hb;clear hE hb;by_cases cE:k<n
   ·have iw:k<l.length:=by rw [HN.out.1];exact cE
    have PO:k<l'.length:=by rw [HN.out.2];exact cE
    have i1:(0:Int)≤(k:Int):=by omega
    have i2:(k:Int)<(n:Int):=by omega
    obtain ⟨b,o,rfl,r1⟩:=h1 k iw;obtain ⟨b',o',rfl,r2⟩:=h2 k PO;have r1:=ej r1 HB.out;have r2:=ej r2 HB.out;by_cases F_:l[k]=l'[k]
    ·have HX:Hid (l.take (k+1)=l'.take (k+1)):=Jm iw PO HE.out F_;have hd:decide (l[k]=l'[k])=true:=decide_eq_true F_;generalize l[k]=p at *;generalize l'[k]=p2 at *;go_upto_region 6 with (fail)
     have dm:wr.drew.rangeAt b (o+k * 6) (mW p)∧wr.drew.rangeAt b' (o'+k * 6) (mW p2):=⟨r1,r2⟩;clear r1 r2 F_;refine wp_region_held_drew (S:=fun W=>W.rangeAt b (o+k * 6) (mW p)∧W.rangeAt b' (o'+k * 6) (mW p2)) (by kernel_rfl) dm (fun hHeld=>?_);refine aH 0 (.slice (some ⟨b,o,none⟩) n c) rfl ?_;go_frame;refine aH 1 (.int .i64 (k:Int)) rfl ?_;go_frame;refine aH 2 (.pointer (some ⟨b,o+k * 6,none⟩)) rfl ?_;go_frame;refine dG 3 (.agg (mW p).toArray) rfl (fun w hSw=>td hSw.1 underlying103 rfl gh rfl rfl) ?_;go_frame;refine aH 4 (.slice (some ⟨b',o',none⟩) n c') rfl ?_;go_frame;refine aH 5 (.int .i64 (k:Int)) rfl ?_;go_frame;refine aH 6 (.pointer (some ⟨b',o'+k * 6,none⟩)) rfl ?_;go_frame;refine dG 7 (.agg (mW p2).toArray) rfl (fun w hSw=>td hSw.2 underlying103 rfl gh rfl rfl) ?_;go_frame;refine dG 8 (.bool (!true)) rfl (fun w hSw=>uH (hd ▸ Ct (w:=w) 9996 p p2) eqGuardType103 rfl rfl rfl) ?_;go_frame;refine wpAnyH_done (by kernel_rfl) ?_ _;go_wp2_with fail
     go_roundw
     case rel=>exact ⟨k+1,by omega,by go_num,HX.out,Below.join HB.out (aG wr)⟩
     case measure=>simp [intOf];omega
    ·have HX:Hid (l≠l'):=fun e=>F_ (by subst e;rfl)
     have hd:decide (l[k]=l'[k])=false:=decide_eq_false F_;generalize l[k]=p at *;generalize l'[k]=p2 at *;go_upto_region 6 with (fail)
     have dm:wr.drew.rangeAt b (o+k * 6) (mW p)∧wr.drew.rangeAt b' (o'+k * 6) (mW p2):=⟨r1,r2⟩;clear r1 r2 F_;refine wp_region_held_drew (S:=fun W=>W.rangeAt b (o+k * 6) (mW p)∧W.rangeAt b' (o'+k * 6) (mW p2)) (by kernel_rfl) dm (fun hHeld=>?_);refine aH 0 (.slice (some ⟨b,o,none⟩) n c) rfl ?_;go_frame;refine aH 1 (.int .i64 (k:Int)) rfl ?_;go_frame;refine aH 2 (.pointer (some ⟨b,o+k * 6,none⟩)) rfl ?_;go_frame;refine dG 3 (.agg (mW p).toArray) rfl (fun w hSw=>td hSw.1 underlying103 rfl gh rfl rfl) ?_;go_frame;refine aH 4 (.slice (some ⟨b',o',none⟩) n c') rfl ?_;go_frame;refine aH 5 (.int .i64 (k:Int)) rfl ?_;go_frame;refine aH 6 (.pointer (some ⟨b',o'+k * 6,none⟩)) rfl ?_;go_frame;refine dG 7 (.agg (mW p2).toArray) rfl (fun w hSw=>td hSw.2 underlying103 rfl gh rfl rfl) ?_;go_frame;refine dG 8 (.bool (!false)) rfl (fun w hSw=>uH (hd ▸ Ct (w:=w) 9996 p p2) eqGuardType103 rfl rfl rfl) ?_;go_frame;refine wpAnyH_done (by kernel_rfl) ?_ _;go_wp2_with fail
     go_ret;exact ⟨⟨false,rfl,by simp;exact HX.out⟩,Below.join HB.out (aG wr)⟩
   ·have iX:decide ((k:Int)<(n:Int))=false:=by simp;omega
    have HX:Hid (l=l'):=by
     have e:=HE.out;rw [List.take_of_length_le (by rw [HN.out.1];omega),List.take_of_length_le (by rw [HN.out.2];omega)] at e;exact e
    go_wp2_with fail
    go_ret;exact ⟨⟨true,rfl,by simp;exact HX.out⟩,HB.out⟩
 ·have HX:Hid (l≠l'):=fun e=>hne (by rw [←HN.out.1,←HN.out.2,e])
  have d0:((n:Int) !=(n':Int))=true:=by simp;omega
  have d1:¬(n:Int)=(n':Int):=by omega
  go_enter func89,ntmps89;go_wp2_with fail
  go_ret;exact ⟨⟨false,rfl,by simp;exact HX.out⟩,Below.refl _ _⟩
set_option maxRecDepth 100000 in
theorem Ko (r r':Int×(List (Int×Int)×(List (Int×Int)×List ((Int×Int)×((Int×Int)×(Int×Int)))))) (aL aJ aI bL bJ bI:Option Addr) (cL cJ cI dL dJ dI:Nat) (w:World) (rL:iG iI 2 w aL r.2.1) (rJ:iG iI 2 w aJ r.2.2.1) (rI:iG mW 6 w aI r.2.2.2) (qL:iG iI 2 w bL r'.2.1) (qJ:iG iI 2 w bJ r'.2.2.1) (qI:iG mW 6 w bI r'.2.2.2)
  (n1:r.2.1.length<4611686018427387904) (n2:r.2.2.1.length<4611686018427387904) (n3:r.2.2.2.length<4611686018427387904) (n4:r'.2.1.length<4611686018427387904) (n5:r'.2.2.1.length<4611686018427387904) (n6:r'.2.2.2.length<4611686018427387904):
  Calls prog 51 #[.agg (vy r.1 (.slice aL r.2.1.length cL) (.slice aJ r.2.2.1.length cJ) (.slice aI r.2.2.2.length cI)).toArray,.agg (vy r'.1 (.slice bL r'.2.1.length dL) (.slice bJ r'.2.2.1.length dJ) (.slice bI r'.2.2.2.length dI)).toArray] w fun e w'=>(∃b,e=.returned (.bool b)∧(b=true↔r=r'))∧Below w.heap.size w w':=by
 obtain ⟨e,L,J,I⟩:=r;obtain ⟨e',L',J',I'⟩:=r';dsimp only at *;unfold vy;have HX:Hid (((e,L,J,I)=(e',L',J',I'))↔(e=e'∧L=L'∧J=J'∧I=I')):=by unfold Hid;simp
 have s1:=fun W (hb:Below w.heap.size w W)=>yB aL bL cL dL L L' W (rL.later hb) (qL.later hb) n1 n4
 have s2:=fun W (hb:Below w.heap.size w W)=>yB aJ bJ cJ dJ J J' W (rJ.later hb) (qJ.later hb) n2 n5
 have s3:=fun W (hb:Below w.heap.size w W)=>Kp aI bI cI dI I I' W (rI.later hb) (qI.later hb) n3 n6
 have hb1:=aa w (.cells #[.int .i64 e,.slice aL L.length cL,.slice aJ J.length cJ,.slice aI I.length cI] 54);have hb2:=aa (w.alloc (.cells #[.int .i64 e,.slice aL L.length cL,.slice aJ J.length cJ,.slice aI I.length cI] 54)) (.cells #[.int .i64 e',.slice bL L'.length dL,.slice bJ J'.length dJ,.slice bI I'.length dI] 54);have hA:=aQ (heap_alloc_last w (.cells #[.int .i64 e,.slice aL L.length cL,.slice aJ J.length cJ,.slice aI I.length cI] 54)) hb2;have hC:=heap_alloc_last (w.alloc (.cells #[.int .i64 e,.slice aL L.length cL,.slice aJ J.length cJ,.slice aI I.length cI] 54)) (.cells #[.int .i64 e',.slice bL L'.length dL,.slice bJ J'.length dJ,.slice bI I'.length dI] 54);rw [World.size_alloc] at hC;have hB:=Below.join hb1 hb2;clear hb1 hb2 rL rJ rI qL qJ qI n1 n2 n3 n4 n5 n6;generalize L.length=l1 at *;generalize J.length=l2 at *;generalize I.length=l3 at *;generalize L'.length=l4 at *;generalize J'.length=l5 at *;generalize I'.length=l6 at *;go_enter func51,ntmps51;go_upto_region 1 with (fail)
 generalize (w.alloc (.cells #[.int .i64 e,.slice aL l1 cL,.slice aJ l2 cJ,.slice aI l3 cI] 54)).alloc (.cells #[.int .i64 e',.slice bL l4 dL,.slice bJ l5 dJ,.slice bI l6 dI] 54)=w1 at *;obtain ⟨C,hCe⟩:∃C,w.heap.size+1=C:=⟨_,rfl⟩;rw [hCe] at hC ⊢;obtain ⟨A,hAe⟩:∃C,w.heap.size=C:=⟨_,rfl⟩;rw [hAe] at hA ⊢;clear hCe hAe;have HB:Hid (Below w.heap.size w w1):=hB;obtain ⟨x0,x1,x2,x3⟩:=c4 hA;obtain ⟨y0,y1,y2,y3⟩:=c4 hC;clear hB;by_cases he:e=e'
 ·subst he;have d1:(e==e)=true:=by simp
  go_wp2_with fail
  refine (s1 _ HB.out).mono ?_;rintro q w2 ⟨⟨b1,rfl,hb1⟩,hb2⟩;have Za:=aQ hA hb2;have WD:=aQ hC hb2;have bm:Hid (Below w.heap.size w w2):=Below.join HB.out hb2;have H1:Hid (b1=true↔L=L'):=hb1;clear x0 x1 x2 x3 y0 y1 y2 y3 hA hC HB hb2 hb1 s1;obtain ⟨x0,x1,x2,x3⟩:=c4 Za;obtain ⟨y0,y1,y2,y3⟩:=c4 WD
  cases b1 with
  | false=>
   go_wp2_with fail
   go_ret;exact ⟨⟨false,rfl,by rw [HX.out];have:=H1.out;simp at this ⊢;intro h;exact absurd h this⟩,bm.out⟩
  | true=>
   go_wp2_with fail
   refine (s2 _ bm.out).mono ?_;rintro q w3 ⟨⟨b2,rfl,hb2⟩,hb3⟩;have hA3:=aQ Za hb3;have hC3:=aQ WD hb3;have dR:Hid (Below w.heap.size w w3):=Below.join bm.out hb3;have H2:Hid (b2=true↔J=J'):=hb2;clear x0 x1 x2 x3 y0 y1 y2 y3 Za WD bm hb3 hb2 s2;obtain ⟨x0,x1,x2,x3⟩:=c4 hA3;obtain ⟨y0,y1,y2,y3⟩:=c4 hC3
   cases b2 with
   | false=>
    go_wp2_with fail
    go_ret;exact ⟨⟨false,rfl,by rw [HX.out];have:=H2.out;simp at this ⊢;intro _ h;exact absurd h this⟩,dR.out⟩
   | true=>
    go_wp2_with fail
    refine (s3 _ dR.out).mono ?_;rintro q w4 ⟨⟨b3,rfl,hb3⟩,hb4⟩;have R7:Hid (Below w.heap.size w w4):=Below.join dR.out hb4;have H3:Hid (b3=true↔I=I'):=hb3;clear x0 x1 x2 x3 y0 y1 y2 y3 hA3 hC3 dR hb4 hb3 s3;go_wp2_with fail
    go_ret;exact ⟨⟨b3,by cases b3 <;> rfl,by rw [HX.out,H3.out];have h1:=H1.out;have h2:=H2.out;simp at h1 h2;exact ⟨fun h=>⟨by simp,h1,h2,h⟩,fun h=>h.2.2.2⟩⟩,R7.out⟩
 ·have d1:(e==e')=false:=by simp [he]
  have d2:decide (e=e')=false:=by simp [he]
  go_wp2_with fail
  go_ret;exact ⟨⟨false,rfl,by rw [HX.out];simp [he]⟩,HB.out⟩
open Sh (bc)
variable {i:(Int×Int)×((Int×Int)×(Int×Int))}
theorem wR (s:Int×Int):gS s=(gW s.1&&gL s.2):=rfl
set_option maxRecDepth 100000 in
theorem vE (a:Option Addr) (c:Nat) (l:List (Int×Int)) (w:World) (rd:iG iI 2 w a l) (hl:l.length<4611686018427387904):
  Calls prog 91 #[.slice a l.length c] w fun e w'=>e=.returned (.bool (decide (l.length≤64)&&l.all gS))∧Below w.heap.size w w':=by
 obtain ⟨n,hn⟩:∃n,l.length=n:=⟨_,rfl⟩;have HN:Hid (l.length=n):=hn;rw [hn] at hl;rw [hn];clear hn;go_enter func91,ntmps91;go_wp2_with fail
 go_loopw [7] (fun i wx=>∃k:Nat,k≤n∧i=.int .i64 (k:Int)∧(∀x∈l.take k,gS x=true)∧Below w.heap.size w wx) (fun i _=>n - (intOf i).toNat)
 case atStart=>exact ⟨0,by omega,rfl,by simp,Below.refl _ _⟩
 case round=>
  obtain ⟨k,hk,rfl,hA,hb⟩:=hrel;have HA:Hid (∀x∈l.take k,gS x=true):=hA;have HB:Hid (Below w.heap.size w wr):=hb;clear hA hb;by_cases cE:k<n
  ·have iw:k<l.length:=by rw [HN.out];exact cE
   obtain ⟨b,o,rfl,hr⟩:=rd k iw;have hr:=ej hr HB.out;unfold iI at hr;have i1:(0:Int)≤(k:Int):=by omega
   have i2:(k:Int)<(n:Int):=by omega
   have h1:=CC l[k].1;have h2:=KG l[k].2
   cases hg1:gW l[k].1 with
   | false=>
    rw [hg1] at h1;have HE:Hid (l.all gS=false):=e9 iw (by rw [wR,hg1];rfl);generalize l[k]=p at *;clear hg1 h2;go_wp2_with (first | (refine kg hr underlying113 rfl ju _ rfl rfl rfl ?_) | (go_at_call 93;refine (h1 _).mono ?_;rintro r w' ⟨rfl,rfl⟩))
    go_ret;exact ⟨ae (by rw [HE.out];simp),Below.plus HB.out _⟩
   | true=>
    rw [hg1] at h1
    cases hg2:gL l[k].2 with
    | false=>
     rw [hg2] at h2;have HE:Hid (l.all gS=false):=e9 iw (by rw [wR,hg1,hg2];rfl);generalize l[k]=p at *;clear hg1 hg2;go_wp2_with (first | (refine kg hr underlying113 rfl ju _ rfl rfl rfl ?_) | (go_at_call 93;refine (h1 _).mono ?_;rintro r w' ⟨rfl,rfl⟩) | (go_at_call 94;refine (h2 _).mono ?_;rintro r w' ⟨rfl,rfl⟩))
     go_ret;exact ⟨ae (by rw [HE.out];simp),Below.plus HB.out _⟩
    | true=>
     rw [hg2] at h2;have Mx:Hid (∀x∈l.take (k+1),gS x=true):=lX iw HA.out (by rw [wR,hg1,hg2];rfl);generalize l[k]=p at *;clear hg1 hg2;go_wp2_with (first | (refine kg hr underlying113 rfl ju _ rfl rfl rfl ?_) | (go_at_call 93;refine (h1 _).mono ?_;rintro r w' ⟨rfl,rfl⟩) | (go_at_call 94;refine (h2 _).mono ?_;rintro r w' ⟨rfl,rfl⟩))
     go_roundw
     case rel=>exact ⟨k+1,by omega,by go_num,Mx.out,Below.plus HB.out _⟩
     case measure=>simp [intOf];omega
  ·have iX:decide ((k:Int)<(n:Int))=false:=by simp;omega
   have HE:Hid (l.all gS=true):=gm (by rw [HN.out];have:k=n:=(by omega);rw [←this];exact HA.out);by_cases Sy:n≤64
   ·have d1:(n:Int)≤64:=by omega
    go_wp2_with fail
    go_ret;exact ⟨ae (by rw [HE.out];simp [Sy]),HB.out⟩
   ·have d1:decide ((n:Int)≤64)=false:=by simp;omega
    have d2:¬(n:Int)≤64:=by omega
    have HF:Hid ((decide (n≤64)&&l.all gS)=false):=by unfold Hid;rw [decide_eq_false Sy];rfl
    go_wp2_with fail
    go_ret;exact ⟨ae (by first | rfl | exact HF.out.symm | (rw [HE.out];simp [Sy])),HB.out⟩
theorem Qm (h:¬(0≤i.1.1∧i.1.1<21)):gI i=false:=by
 unfold gI;by_cases h0:0≤i.1.1
 ·rw [decide_eq_false (show ¬i.1.1<21 from fun h1=>h ⟨h0,h1⟩),Bool.and_false];rfl
 ·rw [decide_eq_false h0];rfl
theorem UK (h0:0≤i.1.1) (h1:i.1.1<21):gI i=(A8 i.1.1 i.1.2&&gB i.2):=by
 unfold gI;rw [decide_eq_true h0,decide_eq_true h1];rfl
set_option maxRecDepth 100000 in
theorem Fj (r:Int×(List (Int×Int)×(List (Int×Int)×List ((Int×Int)×((Int×Int)×(Int×Int)))))) (aL aJ aI:Option Addr) (cL cJ cI:Nat) (w:World) (rL:iG iI 2 w aL r.2.1) (rJ:iG iI 2 w aJ r.2.2.1) (rI:iG mW 6 w aI r.2.2.2) (nL:r.2.1.length<4611686018427387904) (nJ:r.2.2.1.length<4611686018427387904) (nI:r.2.2.2.length<4611686018427387904):
  Calls prog 52 #[.agg (vy r.1 (.slice aL r.2.1.length cL) (.slice aJ r.2.2.1.length cJ) (.slice aI r.2.2.2.length cI)).toArray] w fun e w'=>e=.returned (.bool (gR r))∧Below w.heap.size w w':=by
 obtain ⟨e,L,J,I⟩:=r;dsimp only at *;have HG:Hid (gR (e,L,J,I)=(gE e&&((decide (L.length≤64)&&L.all gS)&&((decide (J.length≤64)&&J.all gS)&&(decide (I.length≤1536)&&I.all gI))))):=rfl;have hE:=Fo e;have h1:=fun W (hb:Below w.heap.size w W)=>vE aL cL L W (rL.later hb) nL
 have h2:=fun W (hb:Below w.heap.size w W)=>vE aJ cJ J W (rJ.later hb) nJ
 obtain ⟨b1,e1⟩:∃b,(decide (L.length≤64)&&L.all gS)=b:=⟨_,rfl⟩;obtain ⟨b2,e2⟩:∃b,(decide (J.length≤64)&&J.all gS)=b:=⟨_,rfl⟩;obtain ⟨b0,e0⟩:∃b,gE e=b:=⟨_,rfl⟩;simp only [e0,e1,e2] at HG h1 h2 hE;rw [HG.out];clear HG e0 e1 e2 rL rJ;generalize L.length=n1 at *;generalize J.length=n2 at *;obtain ⟨n3,Sl⟩:∃n,I.length=n:=⟨_,rfl⟩;have HN:Hid (I.length=n3):=Sl;rw [Sl] at nI;rw [Sl];clear Sl;unfold vy;have hR:=heap_alloc_last w (.cells #[.int .i64 e,.slice aL n1 cL,.slice aJ n2 cJ,.slice aI n3 cI] 54);have hB:=aa w (.cells #[.int .i64 e,.slice aL n1 cL,.slice aJ n2 cJ,.slice aI n3 cI] 54);go_enter func52,ntmps52;go_upto_region 1 with (fail)
 generalize w.alloc (.cells #[.int .i64 e,.slice aL n1 cL,.slice aJ n2 cJ,.slice aI n3 cI] 54)=w1 at *;obtain ⟨B,tI⟩:∃B,w.heap.size=B:=⟨_,rfl⟩;rw [tI] at hR ⊢;clear tI;obtain ⟨c0,c1,c2,c3⟩:=c4 hR;have HB:Hid (Below w.heap.size w w1):=hB;clear hB;go_wp2_with fail
 refine (hE _).mono ?_;rintro q w2 ⟨rfl,rfl⟩
 cases b0 with
 | false=>
  go_wp2_with fail
  go_ret;exact ⟨rfl,HB.out⟩
 | true=>
  go_wp2_with fail
  refine (h1 _ HB.out).mono ?_;rintro q w2 ⟨rfl,hb2⟩;have EF:=aQ hR hb2;have bm:Hid (Below w.heap.size w w2):=Below.join HB.out hb2;clear c0 c1 c2 c3 hb2 hR HB h1;obtain ⟨c0,c1,c2,c3⟩:=c4 EF
  cases b1 with
  | false=>
   go_wp2_with fail
   go_ret;exact ⟨rfl,bm.out⟩
  | true=>
   go_wp2_with fail
   refine (h2 _ bm.out).mono ?_;rintro q w3 ⟨rfl,hb3⟩;have hR3:=aQ EF hb3;have dR:Hid (Below w.heap.size w w3):=Below.join bm.out hb3;clear c0 c1 c2 c3 hb3 EF bm h2;obtain ⟨c0,c1,c2,c3⟩:=c4 hR3
   cases b2 with
   | false=>
    go_wp2_with fail
    go_ret;exact ⟨rfl,dR.out⟩
   | true=>
    by_cases h15:n3≤1536
    ·have d1:decide ((1536:Int)<(n3:Int))=false:=by simp;omega
     have d2:¬(1536:Int)<(n3:Int):=by omega
     have HF:Hid ((true&&(true&&(true&&(decide (n3≤1536)&&I.all gI))))=I.all gI):=by unfold Hid;rw [decide_eq_true h15];rfl
     go_wp2_with fail
     go_loopw [30] (fun i wx=>∃k:Nat,k≤n3∧i=.int .i64 (k:Int)∧(∀x∈I.take k,gI x=true)∧Below w.heap.size w wx) (fun i _=>n3 - (intOf i).toNat)
     case atStart=>exact ⟨0,by omega,rfl,by simp,dR.out⟩
     case round=>
      obtain ⟨k,hk,rfl,hA,hb⟩:=hrel;have HA:Hid (∀x∈I.take k,gI x=true):=hA;have Xk:Hid (Below w.heap.size w wr):=hb;clear hA hb c0 c1 c2 c3;by_cases cE:k<n3
      ·have iw:k<I.length:=by rw [HN.out];exact cE
       obtain ⟨b,o,rfl,hr⟩:=rI k iw;have hr:=ej hr Xk.out;unfold mW at hr;have i1:(0:Int)≤(k:Int):=by omega
       have i2:(k:Int)<(n3:Int):=by omega
       have jV:Hid (gI I[k]=false→I.all gI=false):=fun h=>e9 iw h
       have HYE:Hid (gI I[k]=true→∀x∈I.take (k+1),gI x=true):=fun h=>lX iw HA.out h
       generalize I[k]=p at *;obtain ⟨⟨v,u⟩,bx⟩:=p;dsimp only at hr;clear iw;by_cases v0:0≤v
       ·by_cases v1:v<21
        ·have HGI:Hid (gI ((v,u),bx)=(A8 v u&&gB bx)):=UK v0 v1;have v0':¬v<0:=by omega
         have v1':¬21≤v:=by omega
         by_cases huv:u=v
         ·subst huv;have HX:Hid (I.all gI=false):=jV.out (by rw [HGI.out];unfold A8;simp);have d3:(u==u)=true:=by simp
          go_wp2_with (refine kg hr underlying103 rfl gh _ rfl rfl rfl ?_)
          go_ret;exact ⟨ae (by first | (rw [HF.out,HX.out]) | exact HX.out.symm | (rw [HX.out])),Below.plus Xk.out _⟩
         ·have d3:(u==v)=false:=by simp [huv]
          have d4:decide (u=v)=false:=by simp [huv]
          have hbl:=Sh.pC v u;have HDP:Hid (A8 v u=bc v u):=by unfold Hid A8;rw [decide_eq_true huv,Bool.and_true]
          cases hq:bc v u with
          | false=>
           rw [hq] at hbl;have HX:Hid (I.all gI=false):=jV.out (by rw [HGI.out,HDP.out,hq];rfl);clear hq;go_wp2_with (first | (refine kg hr underlying103 rfl gh _ rfl rfl rfl ?_) | (go_at_call 85;refine (hbl _).mono ?_;rintro r w' ⟨rfl,rfl⟩))
           go_ret;exact ⟨ae (by first | (rw [HF.out,HX.out]) | exact HX.out.symm | (rw [HX.out])),Below.plus Xk.out _⟩
          | true=>
           rw [hq] at hbl;have iP:Hid (gI ((v,u),bx)=gB bx):=by unfold Hid;rw [HGI.out,HDP.out,hq];rfl
           have hgb:=Af bx;clear hq
           cases hgx:gB bx with
           | false=>
            rw [hgx] at hgb;have HX:Hid (I.all gI=false):=jV.out (by rw [iP.out,hgx]);clear hgx;go_wp2_with (first | (refine kg hr underlying103 rfl gh _ rfl rfl rfl ?_) | (go_at_call 85;refine (hbl _).mono ?_;rintro r w' ⟨rfl,rfl⟩))
            refine (hgb _).mono ?_;rintro q w5 ⟨rfl,dT⟩;have R6:Hid (Below w.heap.size w w5):=Below.join (Below.plus Xk.out _) dT;clear dT hgb;go_wp2_with fail
            go_ret;exact ⟨ae (by first | (rw [HF.out,HX.out]) | exact HX.out.symm | (rw [HX.out])),R6.out⟩
           | true=>
            rw [hgx] at hgb;have HX:Hid (∀x∈I.take (k+1),gI x=true):=HYE.out (by rw [iP.out,hgx]);clear hgx;go_wp2_with (first | (refine kg hr underlying103 rfl gh _ rfl rfl rfl ?_) | (go_at_call 85;refine (hbl _).mono ?_;rintro r w' ⟨rfl,rfl⟩))
            refine (hgb _).mono ?_;rintro q w5 ⟨rfl,dT⟩;have R6:Hid (Below w.heap.size w w5):=Below.join (Below.plus Xk.out _) dT;clear dT hgb;go_wp2_with fail
            go_roundw
            case rel=>exact ⟨k+1,by omega,by go_num,HX.out,R6.out⟩
            case measure=>simp [intOf];omega
        ·have HX:Hid (I.all gI=false):=jV.out (Qm (by dsimp only;omega));have v0':¬v<0:=by omega
         have v1':21≤v:=by omega
         go_wp2_with (refine kg hr underlying103 rfl gh _ rfl rfl rfl ?_)
         go_ret;exact ⟨ae (by first | (rw [HF.out,HX.out]) | exact HX.out.symm | (rw [HX.out])),Below.plus Xk.out _⟩
       ·have HX:Hid (I.all gI=false):=jV.out (Qm (by dsimp only;omega));have v0':v<0:=by omega
        go_wp2_with (refine kg hr underlying103 rfl gh _ rfl rfl rfl ?_)
        go_ret;exact ⟨ae (by first | (rw [HF.out,HX.out]) | exact HX.out.symm | (rw [HX.out])),Below.plus Xk.out _⟩
      ·have iX:decide ((k:Int)<(n3:Int))=false:=by simp;omega
       have HX:Hid (I.all gI=true):=gm (by rw [HN.out];have:k=n3:=(by omega);rw [←this];exact HA.out);go_wp2_with fail
       go_ret;exact ⟨ae (by first | (rw [HF.out,HX.out]) | exact HX.out.symm | (rw [HX.out])),Xk.out⟩
    ·have d1:(1536:Int)<(n3:Int):=by omega
     have HF:Hid ((true&&(true&&(true&&(decide (n3≤1536)&&I.all gI))))=false):=by unfold Hid;rw [decide_eq_false h15];rfl
     go_wp2_with fail
     go_ret;exact ⟨ae HF.out.symm,dR.out⟩
end Go.Proofs.YtanaapfobpgibaaGreatDoor.Wi
