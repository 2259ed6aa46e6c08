/- JnK, PwB0, PwM, WiPf1, WiPg1, joined. -/
import Derived.Test.YtanaapfobpgibaaGreatDoorJJnA
import Derived.Test.YtanaapfobpgibaaGreatDoorJPlMath
import Derived.Test.YtanaapfobpgibaaGreatDoorJWiJ
open Go.Proofs.Tryz
set_option maxHeartbeats 2000000
namespace Go.Proofs.YtanaapfobpgibaaGreatDoor.Jr.Dk
open Go.RowKit Go.Maps
set_option linter.unusedVariables false
set_option maxRecDepth 4000
set_option linter.unusedSimpArgs false
variable {w w' w0:World} {N a b c j m p:Nat} {s s':St} {x:Value}
def bG (w w':World):Prop:=∀(k:Nat) (cs:Array Value) (t:TypeId) (fz:Nat×Nat),w.heap[k]? =some (.cells cs t fz)→t≠81→t≠89→t≠160→w'.heap[k]? =some (.cells cs t fz)
theorem bG.bb (h:Below w.heap.size w w'):bG w w':=fun k cs t fz e _ _ _=>(h.block k (Array.getElem?_eq_some_iff.1 e).1).trans e
theorem bG.trans {a b c:World} (h:bG a b) (g:bG b c):bG a c:=fun k cs t fz e h1 h2 h3=>g k cs t fz (h k cs t fz e h1 h2 h3) h1 h2 h3
theorem bY.IA (hd:Dk N w p s b m x) (hw:bY N w p s' b m x w'):bG w w':=fun k cs t fz e h1 h2 h3=>by
 obtain ⟨x1,d1,k1,f1⟩:=hw;exact (k1.block k (Array.getElem?_eq_some_iff.1 e).1 (hd.OE e h1 h2)).trans e
theorem fc.IA {c0 a0:Nat} {dd d0:Bool} (hd:Dk N w p s b m x) (hj0:Jn w j p c0 a0 d0) (hw:fc N w j p s' b m x c a dd w'):bG w w':=fun k cs t fz e h1 h2 h3=>by
 obtain ⟨x1,d1,j1,k1,f1⟩:=hw;refine (k1.block k (Array.getElem?_eq_some_iff.1 e).1 (fun hF=>?_)).trans e;rcases hF with rfl | hF
 ·unfold Jn at hj0;rw [hj0] at e;cases e;exact h3 rfl
 ·exact hd.OE e h1 h2 hF
theorem D6 {d:Bool} (h:ib N w0 w p s) (hj:Jn w j p c a d) (hjN:N≤j) (t:ByteArray) (ha:a≤2048) (ht:t.size≤9223372036854775807) (dY:s.log.length+255≤5864062014805):
  Calls prog 38 #[.pointer (some ⟨j,0,none⟩),.string t] w fun e w'=>e=.returned (.int .i64 (mf s c a d t))∧ib N w0 w' p (ml s c a d t)∧Jn w' j p (tU s c a d t) (tV s c a d t) (tS s c a d t)∧bG w w':=by
 obtain ⟨⟨b,m,x,dd⟩,h1,h2⟩:=h;refine (G6 N w j p s b m x c a d t dd hj ha ht dY h2).mono ?_;rintro e w' ⟨he,hw⟩;obtain ⟨g1,g2⟩:=ib.Yw ⟨⟨b,m,x,dd⟩,h1,h2⟩ dd hjN hw;exact ⟨he,g1,g2,hw.IA dd hj⟩
theorem Xs (h:ib N w0 w p s) (n:Int) (h2:n≤9223372036854775807):
  Calls prog 8 #[.pointer (some ⟨p,0,none⟩),.int .i64 n] w fun e w'=>e=.returned (.tuple #[])∧ib N w0 w' p ⟨s.mX,s.log,max n (-1)⟩∧bG w w'∧(∀j q c a d,Jn w j q c a d→Jn w' j q c a d):=by
 obtain ⟨⟨b,m,x,d⟩,g1,g2⟩:=h;refine (Xt N w p s b m x d n h2).mono ?_;rintro e w' ⟨he,hd,hk⟩;have hW:bY N w p ⟨s.mX,s.log,max n (-1)⟩ b m x w':=⟨x,hd,hk,fun k hk=>.inl hk⟩;exact ⟨he,ib.wrote ⟨⟨b,m,x,d⟩,g1,g2⟩ d hW,hW.IA d,fun j q c a dd hj=>Wb d hW hj⟩
theorem aaQ (h:ib N w0 w p s):Calls prog 59 #[.pointer (some ⟨p,0,none⟩)] w fun e w'=>e=.returned (.bool (decide (s.left≠0)))∧w'=w:=by
 obtain ⟨⟨b,m,x,d⟩,g1,g2⟩:=h;exact mL N w p s b m x d
theorem mr (h:ib N w0 w p s) (hl:s.log.length≤5864062014805):Calls prog 9 #[.pointer (some ⟨p,0,none⟩)] w fun e w'=>(∃a c,e=.returned (.slice a s.log.length c))∧Below w.heap.size w w':=by
 obtain ⟨⟨b,m,x,d⟩,g1,g2⟩:=h;refine (EK N w p s b m x d hl).mono ?_;rintro e w' ⟨v,rfl,hr,hb⟩;obtain ⟨a,c,rfl⟩:=eF hr;exact ⟨⟨a,c,rfl⟩,hb⟩
theorem IC (a:Int) (n:Nat) (hn:n<5864062014900):∃k:Nat,k≤n∧wrap64 ((IntKind.u64.wrap a).tmod ((n:Int)+1))=(k:Int):=by
 have h0:0≤IntKind.u64.wrap a:=by rw [IntKind.wrap_u64];omega
 rw [Int.tmod_eq_emod_of_nonneg h0];have h1:=Int.emod_nonneg (IntKind.u64.wrap a) (show ((n:Int)+1)≠0 by omega);have h2:=Int.emod_lt_of_pos (IntKind.u64.wrap a) (show (0:Int)<(n:Int)+1 by omega);generalize IntKind.u64.wrap a%((n:Int)+1)=z at h1 h2;refine ⟨z.toNat,by omega,?_⟩;unfold wrap64;omega
end Go.Proofs.YtanaapfobpgibaaGreatDoor.Jr.Dk
namespace Go.Proofs.YtanaapfobpgibaaGreatDoor
open Rs (eA)
set_option linter.unusedVariables false
set_option maxRecDepth 4000
def mS (t:Tr) (b:List Int×List Int):Int×(List (Int×Int)×(List (Int×Int)×List It)):=(t.ep+1,(eA t.ro b.1,(kF t b.1 b.2,its (nx t b.1 b.2) (uD t b.1) (kF t b.1 b.2))))
open Go.RowKit
open Rt (Ky zK gd)
open Rs (En zE aU cN fC eA nO mv)
open Sh (bc)
set_option linter.unusedSimpArgs false
variable {t:Tr} {J L:List Int} {x:It} {c:Nat}
def T4 (x:It):(Int×Int)×((Int×Int)×(Int×Int)):=((x.nd,x.fm),((x.un.aB,x.un.bp),(x.ld.aB,x.ld.bp)))
def rW (M:Int×(List (Int×Int)×(List (Int×Int)×List It))):Int×(List (Int×Int)×(List (Int×Int)×List ((Int×Int)×((Int×Int)×(Int×Int))))):=(M.1,(M.2.1,(M.2.2.1,M.2.2.2.map T4)))
theorem Rv:∀c:Fin 85,bc (c.val:Int) (c.val:Int)=true:=by decide+kernel
theorem Pa (h:ku t L J) (hx:x∈its (nx t L J) (uD t L) (kF t L J)):∃v c,x=oJ (nx t L J) v c∧Itm (nx t L J) v c∧v<c:=by
 obtain ⟨v,c,e,hi⟩:=T3 h hx;refine ⟨v,c,e,hi,?_⟩;unfold its at hx
 have ev:∀v' c',oJ (nx t L J) v c=oJ (nx t L J) v' c'→v=v'∧c=c':=fun v' c' e'=>by
  unfold oJ at e';injection e' with e1 e2
  omega
 rcases List.mem_append.1 hx with hx | hx
 ·obtain ⟨v',i,hv,hi',_,hh,e'⟩:=OW.1 hx;obtain ⟨rfl,rfl⟩:=ev _ _ (e.symm.trans e');omega
 ·obtain ⟨p,hp,i,hi',_,e'⟩:=OU.1 hx;obtain ⟨s,hs,iJ,_⟩:=h.seat hp;rw [iJ,Int.toNat_natCast] at e';obtain ⟨rfl,rfl⟩:=ev _ _ (e.symm.trans e');have:=sZ hs i;omega
theorem C6 (h:gu t=true) (hc:c<85) (h0:x8 t (c:Int)=0):gd (AD t c).aB (AD t c).bp=true:=by
 have hr:=di h;rw [AB h hc h0];rcases kn h hc h0 with ⟨h1,e⟩ | ⟨s,hs,e1,ht,e⟩
 ·rw [e];have:=Rt.uJ hr.ks h1;unfold Rt.y9 at this;rw [Bool.and_eq_true] at this;exact this.1
 ·rw [e];obtain ⟨a,b,c',d,_,_⟩:=hr.taken hs ht;have h2:=(hr.fs s hs).2.1;have h3:=hr.e1;dsimp only;simp only [Rt.gd,Bool.and_eq_true,decide_eq_true_eq];refine ⟨by omega,by omega,by omega,by omega⟩
theorem T9 {v:Nat} (hi:Itm t v c) (h:gu t=true):x8 t (v:Int)=0:=by
 refine qD h (by have:=hi.lv;omega) ?_;obtain ⟨s,hs,ht,hb⟩:=PH hi.held;have e:(21+(s:Int))=((21+s:Nat):Int):=by push_cast;rfl
 have:=hi.up (21+s) (by omega) (by rw [←e];exact hb);exact IM hs ht (by rw [e];exact this)
theorem Lb (h:ku t L J) (hx:x∈its (nx t L J) (uD t L) (kF t L J)):Wi.gI (T4 x)=true:=by
 obtain ⟨v,c,rfl,hi,hvc⟩:=Pa h hx;have ht:=h.XF;have k1:=C6 ht hi.lc (qD ht hi.lc hi.held);have k2:=C6 ht (show v<85 by have:=hi.lv;omega) (T9 hi ht);have hb:=hi.up c hi.lc (Rv ⟨c,hi.lc⟩);have h1:=hi.lv;refine Wi.Qn.2 ⟨⟨by show (0:Int)≤(v:Int);omega,by show (v:Int)<21;omega⟩,?_,k1,k2⟩;show Wi.A8 (v:Int) (c:Int)=true
 unfold Wi.A8;rw [hb];simp;omega
theorem VF {x:Int} (h:mv x=true):0≤x∧x<256:=by
 unfold Rs.mv at h
 simpa using h
theorem Kd (h:ku t L J):Wi.gR (rW (mS t (L,J)))=true:=by
 have e0:=h.rt.e0;have e1:=h.ep;have lL:(eA t.ro L).length≤64:=by rw [A5 h.fit,List.length_map];exact h.fit.CV
 have lJ:(kF t L J).length≤64:=by
  have:(kF t L J).length=J.length:=by unfold kF;simp
  rw [this];exact h.fit.CW
 have lI:=T2 (nx t L J) (eA t.ro L) (kF t L J);unfold Wi.gR;simp only [Bool.and_eq_true,decide_eq_true_eq,List.all_eq_true];refine ⟨Wi.Qp.2 ⟨by show 1≤t.ep+1;omega,by show t.ep+1≤200;omega⟩,⟨lL,fun p hp=>?_⟩,⟨lJ,fun p hp=>?_⟩,?_,fun x hx=>?_⟩
 ·obtain ⟨s,hs,h2,_,_,hm⟩:=h.left hp;obtain ⟨k,hk,e⟩:=List.mem_iff_getElem.1 hm;have q:=(h.fit.lv k hk).1;rw [List.getD_eq_getElem?_getD,List.getElem?_eq_getElem hk,Option.getD_some,e] at q;exact Wi.Gs.2 ⟨VF q,by omega,by omega⟩
 ·obtain ⟨m,hm,e⟩:=Iw.1 hp;have q:=VF (h.fit.jn m hm).1;have q2:=(h.joined hm).1;rw [e];exact Wi.Gs.2 ⟨q,by dsimp only;omega,by dsimp only;omega⟩
 ·show ((its (nx t L J) (uD t L) (kF t L J)).map T4).length≤1536
  rw [List.length_map];unfold uD;omega
 ·obtain ⟨y,hy,rfl⟩:=List.mem_map.1 hx;exact Lb h hy
end Go.Proofs.YtanaapfobpgibaaGreatDoor
namespace Go.Proofs.YtanaapfobpgibaaGreatDoor.Wi
open Go.RowKit Go.Maps
open Bt (Kept tb bA JR ua ub okF)
set_option linter.unusedVariables false
set_option linter.unusedSimpArgs false
set_option maxRecDepth 100000 in
theorem XU (m:lZ) (aL aJ aI:Option Addr) (cL cJ cI:Nat) (w:World) (hr:MR w m aL aJ aI) (hg:gM m=true) (hk:m.kd=1):
  Calls prog 12 #[.agg (CU m aL aJ aI cL cJ cI).toArray] w fun e w'=>e=.returned (.tuple #[.string (EH m),.int .i64 0])∧Below w.heap.size w w':=by
 have hb1:=aa w (.cells (CU m aL aJ aI cL cJ cI).toArray 68);have h2:=H7 m aL aJ aI cL cJ cI _ (hr.later hb1) hk;rw [hg] at h2;have hM:df _ w.heap.size m (.slice aL m.rk.2.1.length cL) (.slice aJ m.rk.2.2.1.length cJ) (.slice aI m.rk.2.2.2.length cI):=heap_alloc_last w (.cells (CU m aL aJ aI cL cJ cI).toArray 68);have HGM:Hid (gM m=true):=hg;have HR:Hid (MR w m aL aJ aI):=hr;have HK:Hid (m.kd=1):=hk;obtain ⟨vL,hvL⟩:∃x,Value.slice aL m.rk.2.1.length cL=x:=⟨_,rfl⟩;obtain ⟨vJ,hvJ⟩:∃x,Value.slice aJ m.rk.2.2.1.length cJ=x:=⟨_,rfl⟩;obtain ⟨vI,hvI⟩:∃x,Value.slice aI m.rk.2.2.2.length cI=x:=⟨_,rfl⟩;rw [hvL,hvJ,hvI] at hM;have HVV:Hid (Value.slice aL m.rk.2.1.length cL=vL∧Value.slice aJ m.rk.2.2.1.length cJ=vJ∧Value.slice aI m.rk.2.2.2.length cI=vI):=⟨hvL,hvJ,hvI⟩;have HCT:Hid (CU m aL aJ aI cL cJ cI=xE m vL vJ vI):=by unfold Hid CU;rw [hvL,hvJ,hvI]
 clear hvL hvJ hvI hr hg;obtain ⟨ct,bQ⟩:∃c,(CU m aL aJ aI cL cJ cI)=c:=⟨_,rfl⟩;have HS:Hid ((prog.info? 68).map (·.size)=some ct.length):=by unfold Hid;rw [←bQ];exact S9
 rw [bQ] at hM hb1 h2 HCT;rw [bQ];clear bQ;go_enter func12,ntmps12;go_upto_region 1 with (fail)
 have HA:Hid (_<_):=(Array.getElem?_eq_some_iff.1 hM).1;have HRA:Hid ((w.alloc (.cells ct.toArray 68)).rangeAt w.heap.size 0 ct):=MB.all (MB.new w ct);generalize w.alloc (.cells ct.toArray 68)=w1 at *;obtain ⟨A,hAe⟩:∃A,w.heap.size=A:=⟨_,rfl⟩;rw [hAe] at hM HRA HA ⊢;clear hAe;have HM1:Hid (df w1 A m vL vJ vI):=hM;have dV:Hid (Below w.heap.size w w1):=hb1;clear hM hb1;go_wp2_with (refine kg HRA.out underlying68 rfl HS.out _ rfl rfl rfl ?_)
 refine h2.mono ?_;rintro e w0 ⟨rfl,hb2⟩;have B1:Hid (Below w.heap.size w w0):=Below.join dV.out hb2;have RU:Hid (df w0 A m vL vJ vI):=HM1.out.later hb2;clear h2 hb2 HM1 dV HRA HA HS HCT;have ck:=RU.out.kind;rw [HK.out] at ck;have Ds:GR w0 w0 (.slice none 0 0) (.slice none 0 0) []:=GR.refl (World.ownsRow_nil _ _ _ _);have hq:=X6 0 2 ⟨by omega,by omega⟩ Ds (by simp);clear Ds;go_wp2_with fail
 refine hq.mono ?_;rintro e w2 ⟨v0,rfl,g2⟩;have Xh:Hid (GR w0 w2 (.slice none 0 0) v0 ([]++[((0:Int).toNat,2)])):=g2;have iY:=RU.out.later g2.below;clear hq g2 ck;have ck:=iY.kind;rw [HK.out] at ck
 have HQ:Hid (nn m.rk.1∧(m.rk.2.1.length≤64∧∀x∈m.rk.2.1,nn x.1∧nn x.2)∧(m.rk.2.2.1.length≤64∧∀x∈m.rk.2.2.1,nn x.1∧nn x.2)∧m.rk.2.2.2.length≤1536∧∀x∈m.rk.2.2.2,(nn x.1.1∧nn x.1.2)∧(nn x.2.1.1∧nn x.2.1.2)∧(nn x.2.2.1∧nn x.2.2.2)):=by
  rcases wS HGM.out with ⟨a,e⟩ | ⟨a,e⟩ | ⟨a,e⟩ | ⟨a,e⟩
  ·simp only [gR,Bool.and_eq_true,decide_eq_true_eq,List.all_eq_true] at a;exact ⟨acB a.1,⟨a.2.1.1,fun x hx=>aaR (a.2.1.2 x hx)⟩,⟨a.2.2.1.1,fun x hx=>aaR (a.2.2.1.2 x hx)⟩,a.2.2.2.1,fun x hx=>acA (a.2.2.2.2 x hx)⟩
  ·have:=HK.out;rw [e] at this;simp [mR,mQ,mP,mD] at this
  ·have:=HK.out;rw [e] at this;simp [mR,mQ,mP,mD] at this
  ·have:=HK.out;rw [e] at this;simp [mR,mQ,mP,mD] at this
 have c1:=df.cell iY 1 _ rfl;have hq:=X6 m.rk.1 8 HQ.out.1 Xh.out (by simp);go_wp2_with fail
 refine hq.mono ?_;rintro e w3 ⟨va,rfl,g3⟩;have Xg:Hid (GR w0 w3 (.slice none 0 0) va ([]++[((0:Int).toNat,2)]++[(m.rk.1.toNat,8)])):=g3;have aea:Hid (df w0 A m vL vJ vI):=RU.out;have EI:Hid (Value.slice aL m.rk.2.1.length cL=vL∧Value.slice aJ m.rk.2.2.1.length cJ=vJ):=⟨HVV.out.1,HVV.out.2.1⟩;have SD:Hid (MR w0 m aL aJ aI):=HR.out.later B1.out
 have Eo:Hid (∀l:List (Int×Int),l.length≤64→(fL l).length≤129):=by
  intro l h;unfold fL;rw [List.length_append,uQ fS 2 (fun _=>rfl)];simp;omega
 clear hq g3 ck c1 iY Xh;go_upto_region 7 with (fail)
 have HGd:Hid (GR w0 w3.drew (.slice none 0 0) va ([]++[((0:Int).toNat,2)]++[(m.rk.1.toNat,8)])):=Xg.out.later (aG w3);have Df:=VV EI.out.1 HQ.out.2.1.2 HQ.out.2.1.1 SD.out.l HGd.out (by simp);refine wp_region_held_drew (S:=fun W=>df W A m vL vJ vI) (by kernel_rfl) (RU.out.later HGd.out.below) (fun hHeld=>?_);refine aH 0 (va) rfl ?_;go_frame;refine aH 1 (.pointer (some ⟨A,1,none⟩)) rfl ?_;go_frame;refine aH 2 (.pointer (some ⟨A,2,none⟩)) rfl ?_;go_frame;refine dG 3 (vL) rfl (fun w hSw=>by have z:=df.cell hSw 2 _ rfl;clear hSw;go_simp) ?_;go_frame;refine aH 5 (.pointer (some ⟨A,1,none⟩)) rfl ?_;go_frame;refine aH 6 (.pointer (some ⟨A,3,none⟩)) rfl ?_;go_frame;refine dG 7 (vJ) rfl (fun w hSw=>by have z:=df.cell hSw 3 _ rfl;clear hSw;go_simp) ?_;go_frame;refine dh 4 rfl fun K hK=>?_;go_simp
 refine Df.mono ?_;rintro e x1 ⟨v1,rfl,g2⟩;have Mu:Hid (GR w0 x1 (.slice none 0 0) v1 ([]++[((0:Int).toNat,2)]++[(m.rk.1.toNat,8)]++fL m.rk.2.1)):=g2;have hS1:=RU.out.later g2.below;clear Df g2;have De:=VV EI.out.2 HQ.out.2.2.1.2 HQ.out.2.2.1.1 SD.out.j Mu.out (by have:=Eo.out _ HQ.out.2.1.1;simp;omega);go_wp2_with fail
 refine hK.out _ _ hS1 (fun aD=>?_);clear hHeld hS1;clear hK K;try go_frame
 refine dh 8 rfl fun K hK=>?_;go_simp
 refine De.mono ?_;rintro e x2 ⟨v2,rfl,g2⟩;have iP:Hid (GR w0 x2 (.slice none 0 0) v2 ([]++[((0:Int).toNat,2)]++[(m.rk.1.toNat,8)]++fL m.rk.2.1++fL m.rk.2.2.1)):=g2;have gA:=RU.out.later g2.below;clear De g2;go_wp2_with fail
 refine hK.out _ _ gA (fun aN=>?_);clear aD gA;clear hK K;try go_frame
 refine aH 9 (v2) rfl ?_;go_frame;refine wpAnyH_done (by kernel_rfl) ?_ _;have HMx:Hid (df x2 A m vL vJ vI):=RU.out.later iP.out.below;obtain ⟨n,hn⟩:∃n,m.rk.2.2.2.length=n:=⟨_,rfl⟩;have HN:Hid (m.rk.2.2.2.length=n):=hn;have adR:n≤1536:=by rw [←hn];exact HQ.out.2.2.2.1
 have HVI:Hid (Value.slice aI n cI=vI):=by have h:=HVV.out.2.2;rw [hn] at h;exact h
 have HLB:Hid (([]++[((0:Int).toNat,2)]++[(m.rk.1.toNat,8)]++fL m.rk.2.1++fL m.rk.2.2.1).length≤300):=by
  have h1:=Eo.out _ HQ.out.2.1.1;have h2:=Eo.out _ HQ.out.2.2.1.1;unfold Hid;simp;omega
 clear hn;have c4:=df.cell HMx.out 4 _ rfl;rw [←HVI.out] at c4;have hq:=X6 (n:Int) 11 ⟨by omega,by omega⟩ iP.out (by have:=HLB.out;omega);clear Mu HGd Xg;go_wp2_with fail
 refine hq.mono ?_;rintro e w4 ⟨vb,rfl,g4⟩;have uu:Hid (GR w0 w4 (.slice none 0 0) vb ([]++[((0:Int).toNat,2)]++[(m.rk.1.toNat,8)]++fL m.rk.2.1++fL m.rk.2.2.1++[((n:Int).toNat,11)])):=g4;have HL4:Hid (([]++[((0:Int).toNat,2)]++[(m.rk.1.toNat,8)]++fL m.rk.2.1++fL m.rk.2.2.1++[((n:Int).toNat,11)]).length≤400):=by have:=HLB.out;unfold Hid;rw [List.length_append];simp at this ⊢;omega
 clear hq g4 c4 HMx iP;have c4:=df.cell (RU.out.later uu.out.below) 4 _ rfl;rw [←HVI.out] at c4;obtain ⟨lb,hlb⟩:∃x,[]++[((0:Int).toNat,2)]++[(m.rk.1.toNat,8)]++fL m.rk.2.1++fL m.rk.2.2.1++[((n:Int).toNat,11)]=x:=⟨_,rfl⟩;have adC:Hid ([]++[((0:Int).toNat,2)]++[(m.rk.1.toNat,8)]++fL m.rk.2.1++fL m.rk.2.2.1++[((n:Int).toNat,11)]=lb):=hlb;rw [hlb] at uu HL4;clear hlb;have HRI:Hid (iG mW 6 w0 aI m.rk.2.2.2):=SD.out.i;have HGI:Hid (∀x∈m.rk.2.2.2,(nn x.1.1∧nn x.1.2)∧(nn x.2.1.1∧nn x.2.1.2)∧(nn x.2.2.1∧nn x.2.2.2)):=HQ.out.2.2.2.2;obtain ⟨I,hI⟩:∃I,m.rk.2.2.2=I:=⟨_,rfl⟩;have HI:Hid (m.rk.2.2.2=I):=hI;rw [hI] at HN HRI HGI;clear hI;go_wp2_with fail
 go_loopw [4,46] (fun x i wr=>∃k:Nat,k≤n∧i=.int .i64 (k:Int)∧GR w0 wr (.slice none 0 0) x (lb++(I.take k).flatMap fI)) (fun _ i _=>n - (intOf i).toNat)
 case atStart=>exact ⟨0,by omega,rfl,by simpa using uu.out⟩
 case round=>
  obtain ⟨k,hk,rfl,hG⟩:=hrel;have HG:Hid (GR w0 wr (.slice none 0 0) u4 (lb++(I.take k).flatMap fI)):=hG;clear hG uu c4;by_cases cE:k<n
  ·have iw:k<I.length:=by rw [HN.out];exact cE
   obtain ⟨b,o,he,hr⟩:=HRI.out k iw;subst he;have hr:=ej hr HG.out.below;unfold mW at hr;have i1:(0:Int)≤(k:Int):=by omega
   have i2:(k:Int)<(n:Int):=by omega
   have Ha:Hid ((I.take (k+1)).flatMap fI=(I.take k).flatMap fI++fI I[k]):=Jc fI iw
   have iO:Hid ((lb++(I.take k).flatMap fI).length≤11000):=by
    have:=HL4.out;unfold Hid;rw [List.length_append,uQ fI 6 (fun _=>rfl),List.length_take];omega
   have L8:=HGI.out _ (List.getElem_mem iw);generalize I[k]=p at *;obtain ⟨⟨pv,pf⟩,⟨⟨pa,pb⟩,⟨pc,pd⟩⟩⟩:=p;dsimp only at *;clear iw;obtain ⟨lk,hlk⟩:∃x,lb++(I.take k).flatMap fI=x:=⟨_,rfl⟩;have HLK:Hid (lb++(I.take k).flatMap fI=lk):=hlk;rw [hlk] at HG iO;clear hlk;have L8:Hid ((nn pv∧nn pf)∧(nn pa∧nn pb)∧(nn pc∧nn pd)):=L8;go_upto_region 12 with (refine kg hr underlying103 rfl gh _ rfl rfl rfl ?_)
   have hE:=heap_alloc_last wr (.cells #[.int .i64 pv,.int .i64 pf,.int .i64 pa,.int .i64 pb,.int .i64 pc,.int .i64 pd] 103);have cA:=aa wr (.cells #[.int .i64 pv,.int .i64 pf,.int .i64 pa,.int .i64 pb,.int .i64 pc,.int .i64 pd] 103);have L4:Hid _:=ar HG.out.row cA;have sR:Hid (wr.heap.size<(wr.alloc (.cells #[.int .i64 pv,.int .i64 pf,.int .i64 pa,.int .i64 pb,.int .i64 pc,.int .i64 pd] 103)).heap.size∧u4.ownBlock≠some wr.heap.size):=⟨by simp,Ao HG.out.row⟩;have Xg:Hid (GR w0 (wr.alloc (.cells #[.int .i64 pv,.int .i64 pf,.int .i64 pa,.int .i64 pb,.int .i64 pc,.int .i64 pd] 103)) (.slice none 0 0) u4 lk):=HG.out.later cA;clear cA hr;generalize wr.alloc (.cells #[.int .i64 pv,.int .i64 pf,.int .i64 pa,.int .i64 pb,.int .i64 pc,.int .i64 pd] 103)=w1 at *;obtain ⟨E,Qb⟩:∃E,wr.heap.size=E:=⟨_,rfl⟩;rw [Qb] at hE sR ⊢;clear Qb;have hE:w1.drew.heap[E]? =some (.cells #[.int .i64 pv,.int .i64 pf,.int .i64 pa,.int .i64 pb,.int .i64 pc,.int .i64 pd] 103 (0,0)):=hE;have Df:=ik pv 5 L8.out.1.1.1 L8.out.1.1.2 (w:=w1.drew) (v:=u4) (l:=lk) L4.out (by have:=iO.out;omega);refine wp_region_held_drew (S:=fun W=>W.cell? ⟨E,0,none⟩=some (.int .i64 pv)∧W.cell? ⟨E,1,none⟩=some (.int .i64 pf)∧W.cell? ⟨E,2,none⟩=some (.int .i64 pa)∧W.cell? ⟨E,3,none⟩=some (.int .i64 pb)∧W.cell? ⟨E,4,none⟩=some (.int .i64 pc)∧W.cell? ⟨E,5,none⟩=some (.int .i64 pd)) (by kernel_rfl) (c6 hE) (fun hHeld=>?_);refine aH 0 (u4) rfl ?_;go_frame;refine aH 1 (.pointer (some ⟨E,0,none⟩)) rfl ?_;go_frame;refine aH 2 (.int .i64 pv) rfl ?_;go_frame;refine aH 4 (.pointer (some ⟨E,1,none⟩)) rfl ?_;go_frame;refine aH 5 (.int .i64 pf) rfl ?_;go_frame;refine aH 7 (.pointer (some ⟨E,2,none⟩)) rfl ?_;go_frame;refine aH 8 (.agg #[.int .i64 pa,.int .i64 pb,.int .i64 pc,.int .i64 pd]) rfl ?_;go_frame;refine dh 3 rfl fun K hK=>?_;go_simp
   refine Df.mono ?_;rintro e x1 ⟨v1,rfl,g2⟩;have sS:Hid (x1.heap[E]? =some (.cells #[.int .i64 pv,.int .i64 pf,.int .i64 pa,.int .i64 pb,.int .i64 pc,.int .i64 pd] 103 (0,0))):=(g2.block (sR.out.1) (sR.out.2)).trans hE;have RR:Hid (v1.ownBlock≠some E∧E<x1.heap.size):=⟨g2.ne (sR.out.1) (sR.out.2),Nat.lt_of_lt_of_le (sR.out.1) g2.kp.size⟩;have Mu:Hid (GR w1.drew x1 u4 v1 (lk++[(pv.toNat,5)])):=g2;clear Df g2;have De:=ik pf 7 L8.out.1.2.1 L8.out.1.2.2 (w:=x1) (v:=v1) Mu.out.row (by have:=iO.out;simp;omega);go_wp2_with fail
   refine hK.out _ _ (c6 sS.out) (fun aD=>?_);clear hHeld;clear hK K;try go_frame
   refine dh 6 rfl fun K hK=>?_;go_simp
   refine De.mono ?_;rintro e x2 ⟨v2,rfl,g2⟩;have u6:Hid (x2.heap[E]? =some (.cells #[.int .i64 pv,.int .i64 pf,.int .i64 pa,.int .i64 pb,.int .i64 pc,.int .i64 pd] 103 (0,0))):=(g2.block (RR.out.2) (RR.out.1)).trans sS.out;have Mr:Hid (v2.ownBlock≠some E∧E<x2.heap.size):=⟨g2.ne (RR.out.2) (RR.out.1),Nat.lt_of_lt_of_le (RR.out.2) g2.kp.size⟩;have iP:Hid (GR w1.drew x2 u4 v2 (lk++[(pv.toNat,5)]++[(pf.toNat,7)])):=Mu.out.trans g2;clear De g2;have hq2:=KJ pa pb pc pd L8.out.2.1 L8.out.2.2 (w:=x2) (v:=v2) iP.out.row (by have:=iO.out;simp;omega);go_wp2_with fail
   refine hK.out _ _ (c6 u6.out) (fun aN=>?_);clear aD;clear hK K;try go_frame
   refine dh 9 rfl fun K hK=>?_;go_simp
   refine hq2.mono ?_;rintro e x3 ⟨v3,rfl,g2⟩;have JX:Hid (x3.heap[E]? =some (.cells #[.int .i64 pv,.int .i64 pf,.int .i64 pa,.int .i64 pb,.int .i64 pc,.int .i64 pd] 103 (0,0))):=(g2.block (Mr.out.2) (Mr.out.1)).trans u6.out;have HN3:Hid (v3.ownBlock≠some E∧E<x3.heap.size):=⟨g2.ne (Mr.out.2) (Mr.out.1),Nat.lt_of_lt_of_le (Mr.out.2) g2.kp.size⟩;have oT:Hid (GR w1.drew x3 u4 v3 (lk++[(pv.toNat,5)]++[(pf.toNat,7)]++fB ((pa,pb),(pc,pd)))):=iP.out.trans g2;clear hq2 g2;go_wp2_with fail
   refine hK.out _ _ (c6 JX.out) (fun bK=>?_);clear aN;clear hK K;try go_frame
   refine aH 10 (v3) rfl ?_;go_frame;refine wpAnyH_done (by kernel_rfl) ?_ _;go_wp2_with fail
   go_roundw
   case rel=>
    refine ⟨k+1,by omega,by go_num,?_⟩;rw [Ha.out,←List.append_assoc,HLK.out];have e:lk++fI ((pv,pf),((pa,pb),(pc,pd)))=lk++[(pv.toNat,5)]++[(pf.toNat,7)]++fB ((pa,pb),(pc,pd)):=by simp [fI]
    rw [e];exact (Xg.out.later (aG w1)).trans oT.out
   case measure=>simp [intOf];omega
  ·have iX:decide ((k:Int)<(n:Int))=false:=by simp;omega
   have et:I.take k=I:=List.take_of_length_le (by rw [HN.out];omega);rw [et] at HG;have BV:Hid (GR w0 wr (.slice none 0 0) u4 (lb++I.flatMap fI)):=HG.out;obtain ⟨aF,cF,hvF⟩:=ah BV.out.row
   have HF:Hid ((lb++I.flatMap fI)=fM m):=by
    unfold Hid fM;rw [HK.out];rw [←adC.out];have e1:=HI.out;have e2:=HN.out;simp [fR,e1,e2]
   rw [HF.out] at BV hvF;subst hvF;have hp:=NI HGM.out BV.out;go_wp2_with fail
   refine hp.mono ?_;rintro e wz ⟨rfl,xK⟩;have HBz:Hid (Below w.heap.size w wz):=Below.join (Below.join B1.out BV.out.below) xK;clear hp xK;go_wp2_with fail
   go_ret2
   exact ⟨rfl,HBz.out⟩
set_option maxRecDepth 100000 in
theorem MV.aaG {w:World} {m:lZ} {ct:List Value} (h:MV w m ct) (hk:m.kd=1):Calls prog 12 #[.agg ct.toArray] w fun e w'=>e=.returned (.tuple #[.string (EH m),.int .i64 (U4 m)])∧Below w.heap.size w w':=by
 cases hg:gM m with
 | true=>
  have he:U4 m=0:=by unfold U4;rw [hg];rfl
  rw [he];obtain ⟨aL,aJ,aI,cL,cJ,cI,rfl,hr⟩:=h;exact XU m aL aJ aI cL cJ cI w hr hg hk
 | false=>
  have HE:Hid (EH m=⟨#[]⟩∧U4 m=13):=by unfold Hid EH U4;rw [hg];exact ⟨rfl,rfl⟩
  rw [HE.out.1,HE.out.2];have hb1:=aa w (.cells ct.toArray 68)
  have h2:Calls prog 24 #[.agg ct.toArray] (w.alloc (.cells ct.toArray 68)) fun e w'=>e=.returned (.bool (gM m))∧Below (w.alloc (.cells ct.toArray 68)).heap.size (w.alloc (.cells ct.toArray 68)) w':=by
   obtain ⟨aL,aJ,aI,cL,cJ,cI,e,hr⟩:=h.later hb1;have:=H7 m aL aJ aI cL cJ cI _ hr hk;rw [←e] at this;exact this
  rw [hg] at h2;have HS:Hid _:=ach h;have HRA:Hid ((w.alloc (.cells ct.toArray 68)).rangeAt w.heap.size 0 ct):=MB.all (MB.new w ct);have dV:Hid (Below w.heap.size w (w.alloc (.cells ct.toArray 68))):=hb1;clear h hg hb1 HE;go_enter func12,ntmps12;go_wp2_with (refine kg HRA.out underlying68 rfl HS.out _ rfl rfl rfl ?_)
  refine h2.mono ?_;rintro e w2 ⟨rfl,hb2⟩;have bm:Hid (Below w.heap.size w w2):=Below.join dV.out hb2;clear h2 hb2;go_wp2_with fail
  go_ret2
  exact ⟨rfl,bm.out⟩
end Go.Proofs.YtanaapfobpgibaaGreatDoor.Wi
