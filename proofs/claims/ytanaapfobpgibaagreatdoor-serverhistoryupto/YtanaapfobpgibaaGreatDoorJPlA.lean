/- PlA, PlB, joined. -/
import Derived.Test.YtanaapfobpgibaaGreatDoorJPlMath
open Go.Proofs.Tryz
set_option maxHeartbeats 2000000
namespace Go.Proofs.YtanaapfobpgibaaGreatDoor
open Go.RowKit Go.Maps
open Rt (Ky zK bF cK kE Ez Ey)
open Rs (En zE aU bg cN ft bM iC ps sl put KO)
open Sh (ue eV)
set_option linter.unusedVariables false
set_option linter.unusedSimpArgs false
variable {w:World} {B cJ cL nJ nL:Nat} {aJ aL:Option Addr}
set_option maxRecDepth 100000 in
theorem qy (r v:Nat) (hr:r<4294967296) (hv:v<21) (w:World):
  Calls prog 153 #[.int .u32 (r:Int),.int .i64 (v:Int)] w fun e w'=>e=.returned (.bool (r.testBit v))∧w'=w:=by
 have hand:=Rt.abP r v hr;have v0:(0:Int)≤(v:Int):=by omega
 have v1:IntKind.u64.wrap (v:Int)=(v:Int):=Rs.jY _ (by omega) (by omega)
 cases hb:r.testBit v with
 | false=>
  rw [hb] at hand;go_enter func153,ntmps153;go_wp2_with fail
  go_ret;exact ⟨rfl,rfl⟩
 | true=>
  rw [hb] at hand;go_enter func153,ntmps153;go_wp2_with fail
  go_ret;exact ⟨rfl,rfl⟩
theorem sX {fn:Func} {p:Tmp} (hf:fn.results=#[.cell p 31]) (tmps:Array Value) (W:World) (B:Nat) (e:Ky) (hp:tmps[p]? =some (.pointer (some ⟨B,0,none⟩))) (hb:cK W B e):
  (results fn tmps).run prog W=.ok (.agg #[.int .i64 e.aB,.int .i64 e.bp]) W:=by
 have h:=run_loadVar_row W B _ 31 _ _ _ hb underlying31 rfl F4;simp [results,hf,hp,asAddr,h]
theorem SK.two {W:World} {K:Nat} {t:Tr} (h:SK w W B K t) {A:Nat} (h1:B≠A) (h2:K≠A) (h3:w.heap.size≤A) (a b:Int):SK w ((W.setCell ⟨A,0,none⟩ (.int .i64 a)).setCell ⟨A,1,none⟩ (.int .i64 b)) B K t:=
 ⟨(Rt.eh h1 _ _ _ _).trans h.tr,h.ky.elim fun e he=>⟨e,(Rt.eh h2 _ _ _ _).trans he⟩,Rt.ei h.aK h3 _ _ _ _,h.ne,h.ge⟩
theorem o8 {l:List (Int×Int)} {k:Nat} (h:k<l.length):l.take (k+1)=l.take k++[l.getD k (0,0)]:=by
 rw [List.take_add_one,List.getD_eq_getElem?_getD,List.getElem?_eq_getElem h];rfl
def KyE (k:Ky):Ending:=.returned (.agg #[.int .i64 k.aB,.int .i64 k.bp])
set_option maxRecDepth 100000 in
theorem K_ (t:Tr) (v:Nat) (hv:v<85) (he:t.ep<9223372036854775808) (w:World):Calls prog 151 #[.agg (aC t),.int .i64 (v:Int)] w fun e w'=>e=KyE (AD t v)∧Below w.heap.size w w':=by
 have hS:=SK.new w t;have hs:=Sh.Nc (v:Int);obtain ⟨ct,bQ⟩:∃c,aC t=c:=⟨_,rfl⟩;have HT:Hid (aC t=ct):=bQ;clear bQ;go_enter func151,ntmps151;go_upto_region 1 with (fail)
 generalize (w.alloc (.cells (aC t) 39)).alloc (.cells #[.int .i64 0,.int .i64 0] 31)=w1 at *;rw [HT.out];obtain ⟨K,hK⟩:∃K,w.heap.size+1=K:=⟨_,rfl⟩;rw [hK] at hS ⊢;obtain ⟨B,hB⟩:∃B,w.heap.size=B:=⟨_,rfl⟩;rw [hB] at hS ⊢;clear hK hB;rcases Nat.lt_or_ge v 21 with hn | hn
 ·rw [Sh.E5 (by omega)] at hs;obtain ⟨k,hk⟩:=hS.ky;have n0:(0:Int)≤(v:Int):=by omega
  have n1:(v:Int)<21:=by omega
  obtain ⟨c0,c1⟩:=hS.tr.key v hn;have HA:Hid (AD t v=t.ks v):=F0 hn;obtain ⟨e,he⟩:∃e,t.ks v=e:=⟨_,rfl⟩;rw [he] at c0 c1 HA;clear he;go_wp2_with (first | (go_at_call 205;refine (hs _).mono ?_;rintro r w' ⟨rfl,rfl⟩) | (refine Td hk e rfl _ _ rfl rfl rfl ?_))
  refine bodyPost_ret (sX (p:=4) rfl _ _ K e rfl (cK.row hk _)) rfl ?_;exact ⟨by rw [HA.out];rfl,Rt.ag hS.ge hS.aK _⟩
 ·obtain ⟨s,rfl⟩:∃s,v=21+s:=⟨v - 21,by omega⟩;have xF:s<64:=by omega
  rw [show (((21+s:Nat):Int))=21+(s:Int) by push_cast;rfl] at hs ⊢;rw [Sh.Hy (by omega) (by omega),show 21+(s:Int) - 21=(s:Int) by omega] at hs;have qC:=Rt.FY (t.ro s).who (t.ro s).aB (t.ro s).dx t.ep he;unfold Rt.dv at qC;have HA:Hid (AD t (21+s)=⟨Ez (t.ro s).aB (t.ro s).dx t.ep,Ey (t.ro s).aB (t.ro s).dx t.ep⟩):=CZ;obtain ⟨X,hX⟩:∃X,Ez (t.ro s).aB (t.ro s).dx t.ep=X:=⟨_,rfl⟩;obtain ⟨Y,hY⟩:∃Y,Ey (t.ro s).aB (t.ro s).dx t.ep=Y:=⟨_,rfl⟩;obtain ⟨E,hE⟩:∃E,kE (t.ro s).aB (t.ro s).dx t.ep=E:=⟨_,rfl⟩;simp only [hX,hY,hE] at qC;rw [hX,hY] at HA;clear hX hY hE;have s2:decide ((s:Int)<0)=false:=decide_eq_false (by omega);obtain ⟨v,hv⟩:∃v,21+(s:Int)=v:=⟨_,rfl⟩;rw [hv] at hs ⊢;clear hv;go_upto_region 4 with (go_at_call 205;refine (hs _).mono ?_;rintro r w1 ⟨rfl,rfl⟩)
  go_cut [6] (fun s6 wx=>∃A,s6=.pointer (some ⟨A,0,none⟩)∧SK w wx B K t∧cK wx A ⟨X,Y⟩)
  case first=>
   have dm:SK w w1.drew B K t:=hS.later (aG _);have HN:Hid (B≠w1.heap.size∧K≠w1.heap.size∧w.heap.size≤w1.heap.size):=⟨Nat.ne_of_lt hS.tr.lt,hS.ky.elim fun e he=>Nat.ne_of_lt he.lt,hS.aK.size⟩;clear hS s2 hs;have s0:(0:Int)≤(s:Int):=by omega
   have s1:(s:Int)<64:=by omega
   obtain ⟨e,he⟩:∃e,t.ro s=e:=⟨_,rfl⟩;rw [he] at qC;have HE:Hid (t.ro s=e):=he;clear he;refine wp_region_held_drew (S:=fun W=>SK w W B K t) (by kernel_rfl) dm (fun hHeld=>?_);refine aH 0 (.int .i64 (s:Int)) rfl ?_;go_frame;refine aH 1 (.pointer (some ⟨B,44,none⟩)) rfl ?_;go_frame;refine aH 2 (.pointer (some ⟨B,44+s * 3,none⟩)) rfl ?_;go_frame;refine dG 3 (.agg #[.int .i64 e.who,.int .i64 e.aB,.int .i64 e.dx]) rfl (fun w hSw=>by obtain ⟨c0,c1,c2⟩:=hSw.tr.ent s xF;rw [HE.out] at c0 c1 c2;clear hSw;go_simp) ?_;go_frame;refine aH 4 (.pointer (some ⟨B,0,none⟩)) rfl ?_;go_frame;refine dG 5 (.int .i64 t.ep) rfl (fun w hSw=>by obtain ⟨c0,c1⟩:=hSw.tr.cells;clear hSw;go_simp) ?_;go_frame;refine wpAnyH_ready (rs:=[6,10]) (by kernel_rfl) (by simp) ?_;refine (AllReadyH.cons rfl (fun K hK=>?_) (AllReadyH.cons rfl (fun K hK=>?_) AllReadyH.nil))
   ·go_simp
    refine (qC _).mono ?_;rintro r w5 ⟨rfl,dT⟩;go_wp2_with fail
    refine hK.out _ _ (hHeld.later dT) (fun d_=>?_);clear hHeld dT;clear hK K;try go_frame
    refine aH 7 (.tuple #[.agg #[.int .i64 X,.int .i64 Y],.int .i64 E]) rfl ?_;go_frame;refine aH 8 (.agg #[.int .i64 X,.int .i64 Y]) rfl ?_;go_frame;refine aH 9 (.int .i64 E) rfl ?_;go_frame;refine dh 10 rfl fun K hK=>?_;go_simp
    have jB:=d_;refine hK.out _ _ (d_.later (aa _ _)) (fun gl=>?_);clear hK K;try go_frame
    refine dh 11 rfl fun K hK=>?_;go_simp
    first | (refine hK.out _ _ (jB.later (aa _ _)) (fun iZ=>?_);have PJ:cK (w5.alloc (.cells #[.int .i64 X,.int .i64 Y] 31)) w5.heap.size ⟨X,Y⟩:=cK.new w5 ⟨X,Y⟩) | (refine hK.out _ _ (gl.two HN.out.1 HN.out.2.1 HN.out.2.2 _ _) (fun iZ=>?_);have PJ:=cK.set PK X Y)
    clear hK K;try go_frame
    refine aH 12 (.int .i64 E) rfl ?_;go_frame;refine wpAnyH_done (by kernel_rfl) ?_ _;go_wp2_with fail
    go_meet
    case rel=>exact ⟨_,rfl,iZ,PJ⟩
   ·go_simp
    have hky:cK (w1.drew.alloc (.cells #[.int .i64 0,.int .i64 0] 31)) w1.heap.size zK:=cK.new w1.drew zK;refine hK.out _ _ (hHeld.later (aa _ _)) (fun d_=>?_);clear hHeld;clear hK K;try go_frame
    refine dh 6 rfl fun K hK=>?_;go_simp
    refine (qC _).mono ?_;rintro r w5 ⟨rfl,dT⟩;go_wp2_with fail
    have PK:=hky.later dT;obtain ⟨k0,k1⟩:=PK.cells;have f0:=Rt.ax PK 0;have f1:=Rt.ax PK 1;refine hK.out _ _ (d_.later dT) (fun gl=>?_);clear d_ dT hky;clear hK K;try go_frame
    refine aH 7 (.tuple #[.agg #[.int .i64 X,.int .i64 Y],.int .i64 E]) rfl ?_;go_frame;refine aH 8 (.agg #[.int .i64 X,.int .i64 Y]) rfl ?_;go_frame;refine aH 9 (.int .i64 E) rfl ?_;go_frame;refine dh 11 rfl fun K hK=>?_;go_simp
    first | (refine hK.out _ _ (jB.later (aa _ _)) (fun iZ=>?_);have PJ:cK (w5.alloc (.cells #[.int .i64 X,.int .i64 Y] 31)) w5.heap.size ⟨X,Y⟩:=cK.new w5 ⟨X,Y⟩) | (refine hK.out _ _ (gl.two HN.out.1 HN.out.2.1 HN.out.2.2 _ _) (fun iZ=>?_);have PJ:=cK.set PK X Y)
    clear hK K;try go_frame
    refine aH 12 (.int .i64 E) rfl ?_;go_frame;refine wpAnyH_done (by kernel_rfl) ?_ _;go_wp2_with fail
    go_meet
    case rel=>exact ⟨_,rfl,iZ,PJ⟩
  case rest=>
   obtain ⟨A,rfl,UE,adb⟩:=hcut;obtain ⟨k0,k1⟩:=adb.cells;dsimp only at k0 k1;obtain ⟨k,hk⟩:=UE.ky;go_wp2_with (refine Td hk ⟨X,Y⟩ rfl _ _ rfl rfl rfl ?_)
   refine bodyPost_ret (sX (p:=4) rfl _ _ K ⟨X,Y⟩ rfl (cK.row hk ⟨X,Y⟩)) rfl ?_;exact ⟨by rw [HA.out];rfl,Rt.ag UE.ge UE.aK _⟩
/- The tree and the batch, boxed. -/
def BF (w:World) (B:Nat) (aL aJ:Option Addr) (nL nJ cL cJ:Nat):Prop:=w.heap[B]? =some (.cells #[.slice aL nL cL,.slice aJ nJ cJ] 43 (0,0))
theorem BF.cells (h:BF w B aL aJ nL nJ cL cJ):w.cell? ⟨B,0,none⟩=some (.slice aL nL cL)∧w.cell? ⟨B,1,none⟩=some (.slice aJ nJ cJ):=
 ⟨cell_of_row w B 0 _ _ _ h,cell_of_row w B 1 _ _ _ h⟩
theorem BF.later {w':World} (h:BF w B aL aJ nL nJ cL cJ) (hb:Below w.heap.size w w'):BF w' B aL aJ nL nJ cL cJ:=(hb.block B (Array.getElem?_eq_some_iff.1 h).1).trans h
structure TB (w W:World) (B C:Nat) (t:Tr) (aL aJ:Option Addr) (nL nJ cL cJ:Nat):Prop where
 tr:az W B t
 bt:BF W C aL aJ nL nJ cL cJ
 aK:Below w.heap.size w W
theorem TB.later {w W W':World} {B C:Nat} {t:Tr} {aL aJ:Option Addr} {nL nJ cL cJ:Nat} (h:TB w W B C t aL aJ nL nJ cL cJ) (hb:Below W.heap.size W W'):TB w W' B C t aL aJ nL nJ cL cJ:=⟨h.tr.later hb,h.bt.later hb,h.aK.trans (hb.mono h.aK.size)⟩
theorem TB.new (w:World) (t:Tr) (aL aJ:Option Addr) (nL nJ cL cJ:Nat):TB w ((w.alloc (.cells (aC t) 39)).alloc (.cells #[.slice aL nL cL,.slice aJ nJ cJ] 43)) w.heap.size (w.heap.size+1) t aL aJ nL nJ cL cJ:=by
 have h1:=az.new w t;have hb1:=cG w t;have h2:=heap_alloc_last (w.alloc (.cells (aC t) 39)) (.cells #[.slice aL nL cL,.slice aJ nJ cJ] 43);have hb2:=aa (w.alloc (.cells (aC t) 39)) (.cells #[.slice aL nL cL,.slice aJ nJ cJ] 43);rw [World.size_alloc] at h2;exact ⟨h1.later hb2,h2,hb1.trans (hb2.mono hb1.size)⟩
def Mm (t:Tr) (L J:List Int):Int:=if gu t then (if t.ep=200 then 19 else ft t.ro L J) else 31
set_option maxRecDepth 100000 in
theorem Ea (t:Tr) (aL aJ:Option Addr) (cL cJ:Nat) (L J:List Int) (w:World) (lL:L.length<1152921504606846976) (lJ:J.length<1152921504606846976) (hL:bM w aL L) (hJ:bM w aJ J):
  Calls prog 103 #[.agg (aC t),.agg #[.slice aL L.length cL,.slice aJ J.length cJ]] w fun e w'=>e=.returned (.int .i64 (Mm t L J))∧Below w.heap.size w w':=by
 have hS:=TB.new w t aL aJ L.length J.length cL cJ;have h1:=fH t;have h2:∀W,Below w.heap.size w W→_:=fun W hW=>Rs.DC t.ro aL aJ cL cJ L J W lL lJ (hL.later hW) (hJ.later hW)
 obtain ⟨ct,bQ⟩:∃c,aC t=c:=⟨_,rfl⟩;obtain ⟨cr,tH⟩:∃c,aU t.ro=c:=⟨_,rfl⟩;simp only [bQ] at h1;simp only [tH] at h2;have HT:Hid (aC t=ct):=bQ;have HR:Hid (aU t.ro=cr):=tH;clear bQ tH;go_enter func103,ntmps103;go_upto_region 1 with (fail)
 generalize (w.alloc (.cells (aC t) 39)).alloc (.cells #[.slice aL L.length cL,.slice aJ J.length cJ] 43)=w1 at *;rw [HT.out];have jT:=hS.tr;obtain ⟨C,hC⟩:∃C,w.heap.size+1=C:=⟨_,rfl⟩;rw [hC] at hS ⊢;obtain ⟨B,hB⟩:∃B,w.heap.size=B:=⟨_,rfl⟩;rw [hB] at hS jT ⊢;have VB:Hid (w.heap.size=B):=hB;clear hC hB;go_wp2_with (refine pV jT HT.out _ rfl rfl rfl ?_)
 refine (h1 _).mono ?_;rintro r w2 ⟨rfl,hb2⟩;have gA:=hS.later hb2;clear h1 hS jT hb2
 cases dH:gu t with
 | false=>
  rw [b8 dH];go_wp2_with fail
  go_ret;exact ⟨aj (by unfold Mm;rw [dH];rfl),gA.aK⟩
 | true=>
  rw [p_ dH];obtain ⟨c0,c1⟩:=gA.tr.cells;obtain ⟨e,he⟩:∃e,t.ep=e:=⟨_,rfl⟩;rw [he] at c0;by_cases hp:e=200
  ·subst hp;go_wp2_with fail
   go_ret;exact ⟨aj (by unfold Mm;rw [dH,if_pos rfl,if_pos he]),gA.aK⟩
  ·have hd:(e==200)=false:=by simpa using hp
   have HE:Hid (Mm t L J=ft t.ro L J):=by show Mm t L J=_;unfold Mm;rw [dH,if_pos rfl,if_neg (by rw [he];exact hp)]
   have jS:=gA.tr;obtain ⟨d0,d1⟩:=gA.bt.cells;have h3:=h2 w2 gA.aK;clear he hp h2;go_wp2_with (refine ND jS HR.out _ rfl rfl rfl ?_)
   refine h3.mono ?_;rintro r w3 ⟨rfl,hb3⟩;have pJ:=gA.later hb3;clear h3 hb3 gA jS c0 c1 d0 d1;go_wp2_with fail
   go_ret;exact ⟨aj HE.out.symm,pJ.aK⟩
/- The seats' slots. -/
set_option maxRecDepth 100000 in
theorem z_ (a:Option Addr) (c:Nat) (l:List (Int×Int)) (w:World) (hl:l.length<1152921504606846976) (hr:iC w a l):
  Calls prog 105 #[.slice a l.length c] w fun e w'=>e=.returned (.int .u32 ((rp l:Nat):Int))∧Below w.heap.size w w':=by
 have h1:=fun s (hs:s<18446744073709551616) n=>Rs.uB s hs n
 have h2:=Sh.L0 ((sw l:Nat):Int) (by omega) (by have:=VP l;omega);rw [Z0] at h2;go_enter func105,ntmps105;go_wp2_with fail
 go_loopw [3,10] (fun s i wx=>∃k:Nat,k≤l.length∧i=.int .i64 (k:Int)∧s=.int .u64 ((sw (l.take k):Nat):Int)∧Below w.heap.size w wx) (fun _ i _=>l.length - (intOf i).toNat)
 case atStart=>exact ⟨0,by omega,rfl,by simp [sw],Below.refl _ _⟩
 case round=>
  obtain ⟨k,hk,rfl,rfl,hb⟩:=hrel;have HB:Hid (Below w.heap.size w wr):=hb;clear hb;by_cases ki:k<l.length
  ·have i1:(0:Int)≤(k:Int):=by omega
   have i2:(k:Int)<(l.length:Int):=by omega
   obtain ⟨b,oy,hc0,hc1⟩:=(hr.later HB.out) k ki
   have HT:Hid (sw (l.take (k+1))=Sa (sw (l.take k)) (l.getD k (0,0))):=by
    show sw (l.take (k+1))=_
    rw [o8 ki,S_]
   have hlt:=VP (l.take k);obtain ⟨s,hs⟩:∃s,sw (l.take k)=s:=⟨_,rfl⟩;obtain ⟨p,hp⟩:∃p,l.getD k (0,0)=p:=⟨_,rfl⟩;rw [hs] at hlt HT;rw [hs];rw [hp] at hc0 hc1 HT;have h3:=h1 s hlt p.2;clear hs hp h1 h2;subst oy;have bm:Hid (Below w.heap.size w (wr.alloc (.cells #[.int .i64 p.1,.int .i64 p.2] 113))):=HB.out.alloc HB.out.size _;unfold Sa at HT
   cases Sg:sl p.2 with
   | false=>
    rw [Sg] at HT;rw [Rs.H9 Sg] at h3;go_wp2_with (go_at_call 143;refine (h3 _).mono ?_;rintro r w' ⟨rfl,rfl⟩)
    go_roundw
    case rel=>exact ⟨k+1,by omega,by go_num,by rw [HT.out];rfl,bm.out⟩
    case measure=>simp [intOf];omega
   | true=>
    obtain ⟨n,hn,ac7⟩:=Rs.rP Sg;rw [Sg,hn,if_pos rfl,Int.toNat_natCast] at HT;rw [hn,Rs.Ah ac7] at h3;rw [hn] at hc1;obtain ⟨z,hz⟩:∃z,put s n=z:=⟨_,rfl⟩;rw [hz] at HT h3;clear hz;rw [hn] at bm;go_wp2_with (go_at_call 143;refine (h3 _).mono ?_;rintro r w' ⟨rfl,rfl⟩)
    go_roundw
    case rel=>exact ⟨k+1,by omega,by go_num,by rw [HT.out],bm.out⟩
    case measure=>simp [intOf];omega
  ·obtain rfl:k=l.length:=by omega
   have IY:decide ((l.length:Int)<(l.length:Int))=false:=by simp
   rw [List.take_length];clear h1;go_wp2_with (go_at_call 144;refine (h2 _).mono ?_;rintro r w' ⟨rfl,hb'⟩)
   go_ret;exact ⟨rfl,by first | exact HB.out | exact HB.out.trans (hb'.mono HB.out.size)⟩
open Rt (Ky zK bF cK Gd)
open Rs (En zE aU bg cN)
/- Items as cells. -/
variable {W W' W1 w:World} {A B BL BT n n0:Nat} {cs:Array Value} {T:TypeId} {fz:Nat×Nat} {t:Tr} {v v' vl:Value} {l:List It} {a b:Ky} {o:Obj}
def T_ (x:It):List Value:=[.int .i64 x.nd,.int .i64 x.fm,.int .i64 x.un.aB,.int .i64 x.un.bp,.int .i64 x.ld.aB,.int .i64 x.ld.bp]
def kU (l:List It):List Value:=l.flatMap T_
theorem C8 (l:List It) (x:It):kU (l++[x])=kU l++T_ x:=by simp [kU]
theorem Pe:(prog.info? 103).map (fun i=>(i.zero,i.size,i.bytes))=some (some (.agg #[.int .i64 0,.int .i64 0,.int .i64 0,.int .i64 0,.int .i64 0,.int .i64 0]),6,48):=by kernel_rfl
theorem jA:∃i,prog.info? 103=some i∧i.zero=some (.agg #[.int .i64 0,.int .i64 0,.int .i64 0,.int .i64 0,.int .i64 0,.int .i64 0])∧i.size=6∧i.bytes=48:=by
 have h:=Pe
 cases hq:prog.info? 103 with
 | none=>rw [hq] at h;cases h
 | some i=>
  rw [hq] at h;simp at h;exact ⟨i,rfl,h.1,h.2.1,h.2.2⟩
theorem bD (w:World) (cs:Array Value) (t:TypeId):∀j u,cs.toList[j]? =some u→(w.alloc (.cells cs t)).cell? ((⟨w.heap.size,0,none⟩:Addr).add j)=some u:=by
 intro j u hu
 have uh:(⟨w.heap.size,0,none⟩:Addr).add j=⟨w.heap.size,j,none⟩:=by
  unfold Addr.add;simp;intro h;exact h.symm
 rw [uh,cell_of_row _ _ j _ _ _ (heap_alloc_last w _)]
 simpa using hu
/- What other blocks there are stays. -/
theorem ay {ds:Array Value} {S:TypeId} {gz:Nat×Nat} (h:w.heap[A]? =some (.cells cs T fz)) (h2:w.heap[B]? =some (.cells ds S gz)) (hne:T≠S):A≠B:=by
 rintro rfl;rw [h] at h2;simp at h2;exact hne h2.2.1
def jM (W W':World):Prop:=∀(k:Nat) (cs:Array Value) (T:TypeId),W.heap[k]? =some (.cells cs T (0,0))→T≠103→T≠52→W'.heap[k]? =some (.cells cs T (0,0))
theorem jM.refl (W:World):jM W W:=fun k cs T h _ _=>h
theorem jM.trans {W2:World} (h:jM W W') (h2:jM W' W2):jM W W2:=fun k cs T hk h3 h4=>h2 k cs T (h k cs T hk h3 h4) h3 h4
theorem jM.below (hb:Below W.heap.size W W'):jM W W':=fun k cs T h _ _=>(hb.block k (Array.getElem?_eq_some_iff.1 h).1).trans h
/- The tree, boxed, and the list that is gathered. -/
structure GL (w W:World) (BT BL n0:Nat) (t:Tr) (vl:Value) (l:List It):Prop where
 tr:az W BT t
 li:W.heap[BL]? =some (.cells #[vl] 52 (0,0))
 row:W.ownsRow n0 103 6 vl l.length (kU l)
 aK:Below w.heap.size w W
 bt:BT<n0
 bl:BL<n0
 ne:BT≠BL
 wl:w.heap.size≤BL
 sz:n0≤W.heap.size
theorem GL.later {w W W':World} {BT BL n0:Nat} {t:Tr} {vl:Value} {l:List It} (h:GL w W BT BL n0 t vl l) (hb:Below W.heap.size W W'):GL w W' BT BL n0 t vl l:=
 ⟨h.tr.later hb,(hb.block BL (Array.getElem?_eq_some_iff.1 h.li).1).trans h.li,Rs.ar h.row hb,h.aK.trans (hb.mono h.aK.size),h.bt,h.bl,h.ne,h.wl,Nat.le_trans h.sz hb.size⟩
theorem GL.cell (h:GL w W BT BL n0 t vl l):W.cell? ⟨BL,0,none⟩=some vl:=cell_of_row W BL 0 _ _ _ h.li
structure GH (w W W':World) (BT BL n0:Nat) (t:Tr) (vl:Value) (l:List It):Prop where
 g:GL w W' BT BL n0 t vl l
 k:jM W W'
 sz:W.heap.size≤W'.heap.size
theorem GH.later {w W W' W2:World} {BT BL n0:Nat} {t:Tr} {vl:Value} {l:List It} (h:GH w W W' BT BL n0 t vl l) (hb:Below W'.heap.size W' W2):GH w W W2 BT BL n0 t vl l:=
 ⟨h.g.later hb,h.k.trans (jM.below hb),Nat.le_trans h.sz hb.size⟩
def mn (w:World) (B:Nat) (a b:Ky):Prop:=w.heap[B]? =some (.cells #[.int .i64 a.aB,.int .i64 a.bp,.int .i64 b.aB,.int .i64 b.bp] 61 (0,0))
theorem mn.cells (h:mn w B a b):w.cell? ⟨B,0,none⟩=some (.int .i64 a.aB)∧w.cell? ⟨B,1,none⟩=some (.int .i64 a.bp)∧w.cell? ⟨B,2,none⟩=some (.int .i64 b.aB)∧w.cell? ⟨B,3,none⟩=some (.int .i64 b.bp):=
 ⟨cell_of_row w B 0 _ _ _ h,cell_of_row w B 1 _ _ _ h,cell_of_row w B 2 _ _ _ h,cell_of_row w B 3 _ _ _ h⟩
theorem mn.later {w':World} (h:mn w B a b) (hb:Below w.heap.size w w'):mn w' B a b:=(hb.block B (Array.getElem?_eq_some_iff.1 h).1).trans h
theorem mn.set (h:mn w B a b) (c d:Ky):mn ((((w.setCell ⟨B,0,none⟩ (.int .i64 c.aB)).setCell ⟨B,1,none⟩ (.int .i64 c.bp)).setCell ⟨B,2,none⟩ (.int .i64 d.aB)).setCell ⟨B,3,none⟩ (.int .i64 d.bp)) B c d:=by
 have h3:=Rt.aO (Rt.aO (Rt.aO (Rt.aO h 0 (.int .i64 c.aB)) 1 (.int .i64 c.bp)) 2 (.int .i64 d.aB)) 3 (.int .i64 d.bp);exact h3
theorem lF {C:Nat} (h:C≠B) (v0 v1 v2 v3:Value):((((w.setCell ⟨B,0,none⟩ v0).setCell ⟨B,1,none⟩ v1).setCell ⟨B,2,none⟩ v2).setCell ⟨B,3,none⟩ v3).heap[C]? =w.heap[C]? :=by
 rw [Rt.au h,Rt.au h,Rt.au h,Rt.au h]
theorem E6 (h:Below n w W) (hB:n≤B) (v0 v1 v2 v3:Value):Below n w ((((W.setCell ⟨B,0,none⟩ v0).setCell ⟨B,1,none⟩ v1).setCell ⟨B,2,none⟩ v2).setCell ⟨B,3,none⟩ v3):=
 (((h.setCell (p:=⟨B,0,none⟩) hB v0).setCell (p:=⟨B,1,none⟩) hB v1).setCell (p:=⟨B,2,none⟩) hB v2).setCell (p:=⟨B,3,none⟩) hB v3
/- A box of its own is written. -/
theorem GH.four (h:GH w W W' BT BL n0 t vl l) (hx:mn W' A a b) (hA:W.heap.size≤A) (hw:w.heap.size≤W.heap.size) (v0 v1 v2 v3:Value):
  GH w W ((((W'.setCell ⟨A,0,none⟩ v0).setCell ⟨A,1,none⟩ v1).setCell ⟨A,2,none⟩ v2).setCell ⟨A,3,none⟩ v3) BT BL n0 t vl l:=by
 have n1:BT≠A:=ay h.g.tr hx (by decide);have n2:BL≠A:=ay h.g.li hx (by decide);refine ⟨⟨(lF n1 _ _ _ _).trans h.g.tr,(lF n2 _ _ _ _).trans h.g.li,?_,E6 h.g.aK (by omega) _ _ _ _,h.g.bt,h.g.bl,h.g.ne,h.g.wl,by have:=h.g.sz;simpa using this⟩,fun k cs T hk h1 h2=>?_,?_⟩
 ·obtain ⟨q1,q2⟩:=h.g.row;refine ⟨q1,?_⟩;rcases q2 with q2 | ⟨g,cap,cur,rfl,h3,h4,r⟩
  ·exact .inl q2
  ·exact .inr ⟨g,cap,cur,rfl,h3,(lF (ay h4 hx (by decide)) _ _ _ _).trans h4,r⟩
 ·have iw:=(Array.getElem?_eq_some_iff.1 hk).1;rw [lF (by omega)];exact h.k k cs T hk h1 h2
 ·have:=h.sz
  simpa using this
theorem GL.app {x:It} (h:GL w W BT BL n0 t vl l) (hown:W1.ownsRow n0 103 6 v' (l.length+1) (kU l++T_ x)) (hg:(W.alloc o).grownBy W1 vl.ownBlock):
  W1.heap[BL]? =some (.cells #[vl] 52 (0,0))∧GL w (W1.setCell ⟨BL,0,none⟩ v') BT BL n0 t v' (l++[x]):=by
 have hs1:=h.tr.lt;have hs2:=(Array.getElem?_eq_some_iff.1 h.li).1
 have blk:∀k,k<n0→k<W.heap.size→W1.heap[k]? =W.heap[k]? :=fun k hk hk2=>by
  rw [hg.block k (by simp;omega) (Rs.b9 h.row hk)];exact ((Below.refl _ W).alloc (Nat.le_refl _) o).block k (by omega)
 have rv:W1.heap[BL]? =some (.cells #[vl] 52 (0,0)):=(blk _ h.bl hs2).trans h.li;have Sb:=h.wl;have hbl:=h.bl;have hsz:n0≤W1.heap.size:=by have h1:=hg.size;have h2:=h.sz;simp at h1;omega
 refine ⟨rv,⟨?_,?_,?_,?_,h.bt,h.bl,h.ne,h.wl,by simpa using hsz⟩⟩
 ·exact (Rt.au h.ne _ _).trans ((blk _ h.bt hs1).trans h.tr)
 ·exact Rt.aO rv 0 v'
 ·rw [C8,List.length_append];exact Rs.aY hown fun j hj _=>Rt.au (by omega) _ _
 ·refine Below.setCell (p:=⟨BL,0,none⟩) ?_ h.wl _;have b1:=h.aK.alloc h.aK.size o
  exact Below.grown b1 hg (by have:=h.aK.size;simp;omega) fun j hj=>by
   rcases Nat.lt_or_ge j n0 with hlt | BN
   ·exact absurd hj.symm (Rs.b9 h.row hlt)
   ·omega
theorem kP {b:Nat} {e:TypeId} {sz:Nat} {xs:List Value} (h:W.ownsRow b e sz v n xs) {k:Nat} (hk:W.heap[k]? =some (.cells cs T fz)) (hT:T≠e):some k≠v.ownBlock:=by
 intro he;rcases h.2 with ⟨rfl,_⟩ | ⟨g,cap,cur,rfl,h3,h4,_⟩
 ·simp [Value.ownBlock] at he
 ·simp [Value.ownBlock] at he;subst he;rw [hk] at h4;simp at h4;exact hT h4.2.1
theorem GL.ZV (h:GL w W BT BL n0 t vl l) (hg:(W.alloc o).grownBy W1 vl.ownBlock):jM W (W1.setCell ⟨BL,0,none⟩ v'):=fun k cs T hk h1 h2=>by
 have iw:=(Array.getElem?_eq_some_iff.1 hk).1;have hne:k≠BL:=ay hk h.li h2;rw [Rt.au hne,hg.block k (by simp;omega) (kP h.row hk h1)];exact (((Below.refl _ W).alloc (Nat.le_refl _) o).block k (by omega)).trans hk
def JZ (w W W':World) (BT BL n0:Nat) (t:Tr) (l:List It):Prop:=∃vl',GL w W' BT BL n0 t vl' l∧jM W W'
theorem JZ.of (h:GL w W' BT BL n0 t v l) (k:jM W W'):JZ w W W' BT BL n0 t l:=⟨v,h,k⟩
set_option maxRecDepth 100000 in
theorem qH (t:Tr) (v c:Nat) (hv:v<21) (hc:c<85) (he:t.ep<9223372036854775808) (g1:Gd (AD t c).aB (AD t c).bp) (g2:Gd (t.ks v).aB (t.ks v).bp) (hG:GL w W BT BL n0 t vl l) (hlen:l.length≤4096):
  Calls prog 149 #[.int .i64 (v:Int),.int .i64 (c:Int),.pointer (some ⟨BT,0,none⟩),.pointer (some ⟨BL,0,none⟩)] W fun e W'=>e=.returned (.tuple #[])∧JZ w W W' BT BL n0 t (l++[oJ t v c]):=by
 have h1:=K_ t c hc he;have h2:=Rt.Nk (AD t c).aB (AD t c).bp (t.ks v).aB (t.ks v).bp g1 g2;unfold KyE at h1;have HI:Hid (oJ t v c=⟨v,c,AD t c,t.ks v⟩):=by show oJ t v c=_;unfold oJ;rw [F0 hv]
 obtain ⟨a,ha⟩:∃a,AD t c=a:=⟨_,rfl⟩;obtain ⟨b,hb⟩:∃b,t.ks v=b:=⟨_,rfl⟩;rw [ha] at HI h2;simp only [ha] at h1;rw [hb] at HI h2;have HB:Hid (t.ks v=b):=hb;obtain ⟨ct,bQ⟩:∃c,aC t=c:=⟨_,rfl⟩;simp only [bQ] at h1;have HT:Hid (aC t=ct):=bQ;obtain ⟨i0,hi,hz0,hz1,hz2⟩:=jA;have HL:Hid (l.length≤4096):=hlen;clear bQ ha hb g1 g2 hlen;have v0:(0:Int)≤(v:Int):=by omega
 have v1:(v:Int)<21:=by omega
 have hWw:w.heap.size≤W.heap.size:=hG.aK.size;have Ds:GH w W W BT BL n0 t vl l:=⟨hG,jM.refl _,Nat.le_refl _⟩;clear hG;go_enter func149,ntmps149;go_upto_region 0 with (fail)
 go_cut [6] (fun s6 wx=>∃A,s6=.pointer (some ⟨A,0,none⟩)∧GH w W wx BT BL n0 t vl l∧mn wx A a b)
 case first=>
  have dm:GH w W W.drew BT BL n0 t vl l:=Ds.later (aG _);clear Ds;refine wp_region_held_drew (S:=fun X=>GH w W X BT BL n0 t vl l) (by kernel_rfl) dm (fun hHeld=>?_);refine dG 0 (.agg ct) rfl (fun w hSw=>bB (HT.out ▸ hSw.g.tr.whole) rfl rfl) ?_;go_frame;refine aH 1 (.int .i64 (c:Int)) rfl ?_;go_frame;refine aH 3 (.int .i64 (v:Int)) rfl ?_;go_frame;refine aH 4 (.pointer (some ⟨BT,2,none⟩)) rfl ?_;go_frame;refine aH 5 (.pointer (some ⟨BT,2+v * 2,none⟩)) rfl ?_;go_frame;refine dG 6 (.agg #[.int .i64 b.aB,.int .i64 b.bp]) rfl (fun w hSw=>by obtain ⟨c0,c1⟩:=hSw.g.tr.key v hv;rw [HB.out] at c0 c1;clear hSw;go_simp) ?_;go_frame;refine wpAnyH_ready (rs:=[2,11]) (by kernel_rfl) (by simp) ?_;refine (AllReadyH.cons rfl (fun K hK=>?_) (AllReadyH.cons rfl (fun K hK=>?_) AllReadyH.nil))
  ·go_simp
   refine (h1 _).mono ?_;rintro r w5 ⟨rfl,dT⟩;go_wp2_with fail
   refine hK.out _ _ (hHeld.later dT) (fun d_=>?_);clear hHeld dT;clear hK K;try go_frame
   refine wpAnyH_ready (rs:=[7,11]) (by kernel_rfl) (by simp) ?_;refine (AllReadyH.cons rfl (fun K hK=>?_) (AllReadyH.cons rfl (fun K hK=>?_) AllReadyH.nil))
   ·go_simp
    refine (h2 _).mono ?_;rintro r w6 ⟨rfl,dS⟩;go_wp2_with fail
    refine hK.out _ _ (d_.later dS) (fun gl=>?_);clear d_ dS;clear hK K;try go_frame
    refine aH 8 (.tuple #[.agg #[.int .i64 a.aB,.int .i64 a.bp,.int .i64 b.aB,.int .i64 b.bp],.int .i64 0]) rfl ?_;go_frame;refine aH 9 (.agg #[.int .i64 a.aB,.int .i64 a.bp,.int .i64 b.aB,.int .i64 b.bp]) rfl ?_;go_frame;refine aH 10 (.int .i64 0) rfl ?_;go_frame;refine dh 11 rfl fun K hK=>?_;go_simp
    have jB:=gl;refine hK.out _ _ (gl.later (aa _ _)) (fun iZ=>?_);clear hK K;try go_frame
    refine dh 12 rfl fun K hK=>?_;go_simp
    first | (refine hK.out _ _ (jB.later (aa _ _)) (fun qF=>?_);have Dj:mn (w6.alloc (.cells #[.int .i64 a.aB,.int .i64 a.bp,.int .i64 b.aB,.int .i64 b.bp] 61)) w6.heap.size a b:=heap_alloc_last w6 _) | (refine hK.out _ _ (iZ.four m5 hA hWw _ _ _ _) (fun qF=>?_);have Dj:=mn.set m5 a b)
    clear hK K;try go_frame
    refine aH 13 (.int .i64 0) rfl ?_;go_frame;refine wpAnyH_done (by kernel_rfl) ?_ _;go_wp2_with fail
    go_meet
    case rel=>exact ⟨_,rfl,qF,Dj⟩
   ·go_simp
    have P2:mn (w5.alloc (.cells #[.int .i64 0,.int .i64 0,.int .i64 0,.int .i64 0] 61)) w5.heap.size zK zK:=heap_alloc_last w5 _;have hA:W.heap.size≤w5.heap.size:=d_.sz;refine hK.out _ _ (d_.later (aa _ _)) (fun gl=>?_);clear d_;clear hK K;try go_frame
    refine dh 7 rfl fun K hK=>?_;go_simp
    refine (h2 _).mono ?_;rintro r w6 ⟨rfl,dS⟩;go_wp2_with fail
    have m5:=P2.later dS;obtain ⟨k0,k1,k2,k3⟩:=m5.cells;have f0:=Rt.ax m5 0;have f1:=Rt.ax m5 1;have f2:=Rt.ax m5 2;have f3:=Rt.ax m5 3;refine hK.out _ _ (gl.later dS) (fun iZ=>?_);clear gl dS P2;clear hK K;try go_frame
    refine aH 8 (.tuple #[.agg #[.int .i64 a.aB,.int .i64 a.bp,.int .i64 b.aB,.int .i64 b.bp],.int .i64 0]) rfl ?_;go_frame;refine aH 9 (.agg #[.int .i64 a.aB,.int .i64 a.bp,.int .i64 b.aB,.int .i64 b.bp]) rfl ?_;go_frame;refine aH 10 (.int .i64 0) rfl ?_;go_frame;refine dh 12 rfl fun K hK=>?_;go_simp
    first | (refine hK.out _ _ (jB.later (aa _ _)) (fun qF=>?_);have Dj:mn (w6.alloc (.cells #[.int .i64 a.aB,.int .i64 a.bp,.int .i64 b.aB,.int .i64 b.bp] 61)) w6.heap.size a b:=heap_alloc_last w6 _) | (refine hK.out _ _ (iZ.four m5 hA hWw _ _ _ _) (fun qF=>?_);have Dj:=mn.set m5 a b)
    clear hK K;try go_frame
    refine aH 13 (.int .i64 0) rfl ?_;go_frame;refine wpAnyH_done (by kernel_rfl) ?_ _;go_wp2_with fail
    go_meet
    case rel=>exact ⟨_,rfl,qF,Dj⟩
  ·go_simp
   have Sr:mn (W.drew.alloc (.cells #[.int .i64 0,.int .i64 0,.int .i64 0,.int .i64 0] 61)) W.heap.size zK zK:=heap_alloc_last W.drew _;have hA:W.heap.size≤W.heap.size:=Nat.le_refl _;refine hK.out _ _ (hHeld.later (aa _ _)) (fun d_=>?_);clear hHeld;clear hK K;try go_frame
   refine dh 2 rfl fun K hK=>?_;go_simp
   refine (h1 _).mono ?_;rintro r w5 ⟨rfl,dT⟩;go_wp2_with fail
   have P2:=Sr.later dT;refine hK.out _ _ (d_.later dT) (fun gl=>?_);clear d_ dT Sr;clear hK K;try go_frame
   refine dh 7 rfl fun K hK=>?_;go_simp
   refine (h2 _).mono ?_;rintro r w6 ⟨rfl,dS⟩;go_wp2_with fail
   have m5:=P2.later dS;obtain ⟨k0,k1,k2,k3⟩:=m5.cells;have f0:=Rt.ax m5 0;have f1:=Rt.ax m5 1;have f2:=Rt.ax m5 2;have f3:=Rt.ax m5 3;refine hK.out _ _ (gl.later dS) (fun iZ=>?_);clear gl dS P2;clear hK K;try go_frame
   refine aH 8 (.tuple #[.agg #[.int .i64 a.aB,.int .i64 a.bp,.int .i64 b.aB,.int .i64 b.bp],.int .i64 0]) rfl ?_;go_frame;refine aH 9 (.agg #[.int .i64 a.aB,.int .i64 a.bp,.int .i64 b.aB,.int .i64 b.bp]) rfl ?_;go_frame;refine aH 10 (.int .i64 0) rfl ?_;go_frame;refine dh 12 rfl fun K hK=>?_;go_simp
   first | (refine hK.out _ _ (jB.later (aa _ _)) (fun qF=>?_);have Dj:mn (w6.alloc (.cells #[.int .i64 a.aB,.int .i64 a.bp,.int .i64 b.aB,.int .i64 b.bp] 61)) w6.heap.size a b:=heap_alloc_last w6 _) | (refine hK.out _ _ (iZ.four m5 hA hWw _ _ _ _) (fun qF=>?_);have Dj:=mn.set m5 a b)
   clear hK K;try go_frame
   refine aH 13 (.int .i64 0) rfl ?_;go_frame;refine wpAnyH_done (by kernel_rfl) ?_ _;go_wp2_with fail
   go_meet
   case rel=>exact ⟨_,rfl,qF,Dj⟩
 case rest=>
  obtain ⟨A,rfl,hG9,abm⟩:=hcut;obtain ⟨k0,k1,k2,k3⟩:=abm.cells;have PW:=hG9.g.cell;have hrow:=hG9.g.row;obtain ⟨a1,aS,rfl⟩:=Rs.ah hrow;have HG:Hid (GH w W wc BT BL n0 t (.slice a1 l.length aS) l):=hG9;have hlen:=HL.out;have gZ:n0≤wc.heap.size:=HG.out.g.sz;clear hG9 abm h1 h2 Ds hWw he hv hc v0 v1;go_wp2_with (at_builtin;(refine wpList_append_own _ rfl _ _ 52 rfl n0 103 i0 (.agg #[.int .i64 0,.int .i64 0,.int .i64 0,.int .i64 0,.int .i64 0,.int .i64 0]) 6 48 underlying52 hi hz0 hz1 hz2 rfl (by decide) (.slice a1 l.length aS) l.length (kU l) rfl (hrow.alloc _) ⟨wc.heap.size,0,none⟩ 1 1 [.int .i64 (v:Int),.int .i64 (c:Int),.int .i64 a.aB,.int .i64 a.bp,.int .i64 b.aB,.int .i64 b.bp] rfl rfl (bD _ _ _) (by simp [Value.oneCell']) (by unfold maxLen;omega) (by omega) (by simp;omega) ?_);intro v' w3 hown' hg3 _;obtain ⟨a2,dc,hv2⟩:=Rs.ah hown';subst hv2;have rb:Hid (w3.heap[BL]? =some (.cells #[.slice a1 l.length aS] 52 (0,0))∧GL w (w3.setCell ⟨BL,0,none⟩ (.slice a2 (l.length+1) dc)) BT BL n0 t (.slice a2 (l.length+1) dc) (l++[⟨v,c,a,b⟩])):=HG.out.g.app (x:=⟨v,c,a,b⟩) hown' hg3;have BU:Hid (jM wc (w3.setCell ⟨BL,0,none⟩ (.slice a2 (l.length+1) dc))):=HG.out.g.ZV (v':=.slice a2 (l.length+1) dc) hg3;clear hown' hg3;have hcB:w3.cell? ⟨BL,0,none⟩=some (.slice a1 l.length aS):=cell_of_row w3 BL 0 _ _ _ rb.out.1;have hfB:w3.frozen? ⟨BL,0,none⟩=false:=Rt.ax rb.out.1 0)
  go_end0
  exact ⟨rfl,JZ.of (by rw [HI.out];exact rb.out.2) (HG.out.k.trans BU.out)⟩
end Go.Proofs.YtanaapfobpgibaaGreatDoor
