/- WiY, WiV, WiP, WiK, WiG1, WiV1, WiF, joined. -/
import Derived.Test.YtoimkngkcliinaaGreatDoorJWiU
import Derived.Laws.IdiomStrings
import Derived.Test.YtoimkngkcliinaaGreatDoorJWiA
import Derived.Test.YtoimkngkcliinaaGreatDoorJBitDone
import Derived.Defers
import Derived.Recover
import Derived.Test.YtoimkngkcliinaaGreatDoorHd
import Derived.Deep.RegionHeld3
namespace Go.Proofs.YtoimkngkcliinaaGreatDoor.Wi
open Go.RowKit Go.Maps
open Bt (Wr Fw Kept bo bo_length tb tb_length bys bys_length)
open Rt (gd)
set_option linter.unusedVariables false
set_option linter.unusedSimpArgs false
theorem eL_len (l:List (Int×Int)):(eL l).length=7+14 * l.length:=by
 unfold eL;rw [List.length_append,bo_length,flat_len' eS 14 (fun _=>by simp [eS])]
set_option maxRecDepth 100000 in
set_option maxHeartbeats 1000000 in
theorem wRekey_any (n0 g:Nat) (r:Int×(List (Int×Int)×(List (Int×Int)×List ((Int×Int)×((Int×Int)×(Int×Int)))))) (aL aJ aI:Option Addr) (cL cJ cI:Nat) (l:List Bool) (x:Value) (w:World) (hk:okR r) (hB:n0≤w.heap.size) (hw:Wr n0 w g l x) (hl:l.length≤1024)
  (rL:∀W' x',Wst g w x W' x'→RdV stl 2 W' aL r.2.1) (rJ:∀W' x',Wst g w x W' x'→RdV stl 2 W' aJ r.2.2.1) (rI:∀W' x',Wst g w x W' x'→RdV itl 6 W' aI r.2.2.2):
  Calls Tryz.prog 164 #[.agg #[.pointer (some ⟨g,0,none⟩)],.agg (rkl r.1 (.slice aL r.2.1.length cL) (.slice aJ r.2.2.1.length cJ) (.slice aI r.2.2.2.length cI)).toArray] w fun e w'=>e=.returned (.tuple #[])∧WP n0 g w x (l++eR r) w':=by
 obtain ⟨e,L,J,I⟩:=r;obtain ⟨h1,⟨h2,h3⟩,⟨h4,h5⟩,h6,h7⟩:=hk;obtain ⟨u,rfl,eu,hu⟩:=fit_nat h1;unfold rkl;dsimp only at *;have HE:Hid (l++eR ((u:Int),L,J,I)=l++bo u 8++(bo L.length 7++L.flatMap eS)++(bo J.length 7++J.flatMap eS)++(bo I.length 11++I.flatMap eI)):=by unfold Hid eR eL;dsimp only;rw [eu];simp
 rw [HE.out];have l1:(l++bo u 8).length≤4096:=by rw [List.length_append,bo_length];omega
 have l2:(l++bo u 8++(bo L.length 7++L.flatMap eS)).length≤65536:=by
  have:=eL_len L;unfold eL at this;rw [List.length_append,this];omega
 have l3:(l++bo u 8++(bo L.length 7++L.flatMap eS)++(bo J.length 7++J.flatMap eS)).length≤131072:=by
  have:=eL_len J;unfold eL at this;rw [List.length_append,this];omega
 have HL1:Hid ((l++bo u 8).length≤4096):=l1;have HL2:Hid ((l++bo u 8++(bo L.length 7++L.flatMap eS)).length≤65536):=l2;have HL3:Hid ((l++bo u 8++(bo L.length 7++L.flatMap eS)++(bo J.length 7++J.flatMap eS)).length≤131072):=l3;have HRL:Hid (∀W' x',Wst g w x W' x'→RdV stl 2 W' aL L):=rL;have HRJ:Hid (∀W' x',Wst g w x W' x'→RdV stl 2 W' aJ J):=rJ;have HRI:Hid (∀W' x',Wst g w x W' x'→RdV itl 6 W' aI I):=rI;have h3':∀s∈L,oS s:=h3;have h5':∀s∈J,oS s:=h5;have h7':∀s∈I,oI s:=h7;have HF:Hid ((∀s∈L,oS s)∧(∀s∈J,oS s)∧(∀s∈I,oI s)):=⟨h3',h5',h7'⟩;have HNN:Hid (L.length<128∧J.length<128∧I.length<2048):=⟨h2,h4,h6⟩;have hb:=WB.new2 hw hB (.cells #[.pointer (some ⟨g,0,none⟩)] 290) (.cells #[.int .i64 (u:Int),.slice aL L.length cL,.slice aJ J.length cJ,.slice aI I.length cI] 78);clear HE h1 h2 h3 h4 h5 h6 h7 h3' h5' h7' hw hB eu l1 l2 l3 rL rJ rI;have hmf:∀(fn:Fn) (first cap:Array Value) (w:World),(Instr.makeFunc fn first cap).run Tryz.prog w=.ok (.func fn first cap) w:=fun _ _ _ _=>rfl
 obtain ⟨nL,hnL⟩:∃n,L.length=n:=⟨_,rfl⟩;obtain ⟨nJ,hnJ⟩:∃n,J.length=n:=⟨_,rfl⟩;obtain ⟨nI,hnI⟩:∃n,I.length=n:=⟨_,rfl⟩;have HEQ:Hid (L.length=nL∧J.length=nJ∧I.length=nI):=⟨hnL,hnJ,hnI⟩;simp only [hnL,hnJ,hnI] at hb;rw [hnL,hnJ,hnI];rw [hnL] at HL2 HL3;rw [hnJ] at HL3;clear hnL hnJ hnI
 have hs:∀(n0:Nat) (q:Nat) (a:Option Addr) (c:Nat) (L:List (Int×Int)) (n:Nat) (l:List Bool) (x:Value) (w:World),L.length=n→1≤q→q≤60→n<2^q→n≤2048→(∀s∈L,oS s)→(∀W' x',Wst g w x W' x'→RdV stl 2 W' a L)→n0≤w.heap.size→Wr n0 w g l x→l.length+1048576≤1099511627776→Calls Tryz.prog 216 #[.agg #[.pointer (some ⟨g,0,none⟩)],.slice a n c,.int .i64 (q:Int),.func (.func 217) #[.agg #[.pointer (some ⟨g,0,none⟩)]] #[]] w fun e w'=>e=.returned (.tuple #[])∧WP n0 g w x (l++(bo n q++L.flatMap eS)) w':=by
  intro n0 q a c L n l x w hn h1 h2 h3 h4 h5 h6 h7 h8 h9;subst hn;exact putS_any n0 g q a c L l x w h1 h2 h3 h4 h5 h6 h7 h8 h9
 have hi:∀(n0:Nat) (q:Nat) (a:Option Addr) (c:Nat) (L:List ((Int×Int)×((Int×Int)×(Int×Int)))) (n:Nat) (l:List Bool) (x:Value) (w:World),L.length=n→1≤q→q≤60→n<2^q→n≤2048→(∀s∈L,oI s)→(∀W' x',Wst g w x W' x'→RdV itl 6 W' a L)→n0≤w.heap.size→Wr n0 w g l x→l.length+1048576≤1099511627776→Calls Tryz.prog 218 #[.agg #[.pointer (some ⟨g,0,none⟩)],.slice a n c,.int .i64 (q:Int),.func (.func 219) #[.agg #[.pointer (some ⟨g,0,none⟩)]] #[]] w fun e w'=>e=.returned (.tuple #[])∧WP n0 g w x (l++(bo n q++L.flatMap eI)) w':=by
  intro n0 q a c L n l x w hn h1 h2 h3 h4 h5 h6 h7 h8 h9;subst hn;exact putI_any n0 g q a c L l x w h1 h2 h3 h4 h5 h6 h7 h8 h9
 have HS:Hid _:=hs;have HI:Hid _:=hi;clear hs hi;go_enter Tryz.func164,Tryz.ntmps164;go_upto_region 1 with (fail)
 generalize (w.alloc (.cells #[.pointer (some ⟨g,0,none⟩)] 290)).alloc (.cells #[.int .i64 (u:Int),.slice aL nL cL,.slice aJ nJ cJ,.slice aI nI cI] 78)=w1 at *;obtain ⟨D,hD⟩:∃D,w.heap.size+1=D:=⟨_,rfl⟩;rw [hD] at hb ⊢;obtain ⟨C,hC⟩:∃C,w.heap.size=C:=⟨_,rfl⟩;rw [hC] at hb ⊢;clear hD hC;obtain ⟨d0,d1,d2,d3⟩:=c4 hb.hd;have c0:=c1' hb.hc;have hp:=wNumber_any n0 g u 8 l x w1 (by omega) (by omega) hu hb.sz hb.wr (by omega);have HB:Hid (WB n0 g w w1 x x l C D (.cells #[.pointer (some ⟨g,0,none⟩)] 290) (.cells #[.int .i64 (u:Int),.slice aL nL cL,.slice aJ nJ cJ,.slice aI nI cI] 78)):=hb;clear hb;go_wp2_with fail
 refine hp.mono ?_;rintro e w2 ⟨rfl,hp2⟩;obtain ⟨x2,hb2⟩:=HB.out.next hp2;clear hp hp2 HB c0 d0 d1 d2 d3;obtain ⟨d0,d1,d2,d3⟩:=c4 hb2.hd;have c0:=c1' hb2.hc;have HB:Hid (WB n0 g w w2 x x2 (l++bo u 8) C D (.cells #[.pointer (some ⟨g,0,none⟩)] 290) (.cells #[.int .i64 (u:Int),.slice aL nL cL,.slice aJ nJ cJ,.slice aI nI cI] 78)):=hb2;have hp:=HS.out n0 7 aL cL L nL (l++bo u 8) x2 w2 HEQ.out.1 (by omega) (by omega) (by have:=HNN.out;have:=HEQ.out;omega) (by have:=HNN.out;have:=HEQ.out;omega) HF.out.1 (fun W' x' h=>HRL.out W' x' (HB.out.st.trans h)) hb2.sz hb2.wr (by have:=HL1.out;omega);clear hb2;go_wp2_with fail
 refine hp.mono ?_;rintro e w3 ⟨rfl,hp3⟩;obtain ⟨x3,hb3⟩:=HB.out.next hp3;clear hp hp3 HB c0 d0 d1 d2 d3;obtain ⟨d0,d1,d2,d3⟩:=c4 hb3.hd;have c0:=c1' hb3.hc;have HB:Hid (WB n0 g w w3 x x3 (l++bo u 8++(bo nL 7++L.flatMap eS)) C D (.cells #[.pointer (some ⟨g,0,none⟩)] 290) (.cells #[.int .i64 (u:Int),.slice aL nL cL,.slice aJ nJ cJ,.slice aI nI cI] 78)):=hb3;have hp:=HS.out n0 7 aJ cJ J nJ (l++bo u 8++(bo nL 7++L.flatMap eS)) x3 w3 HEQ.out.2.1 (by omega) (by omega) (by have:=HNN.out;have:=HEQ.out;omega) (by have:=HNN.out;have:=HEQ.out;omega) HF.out.2.1 (fun W' x' h=>HRJ.out W' x' (HB.out.st.trans h)) hb3.sz hb3.wr (by have:=HL2.out;omega);clear hb3;go_wp2_with fail
 refine hp.mono ?_;rintro e w4 ⟨rfl,hp4⟩;obtain ⟨x4,hb4⟩:=HB.out.next hp4;clear hp hp4 HB c0 d0 d1 d2 d3;obtain ⟨d0,d1,d2,d3⟩:=c4 hb4.hd;have c0:=c1' hb4.hc;have HB:Hid (WB n0 g w w4 x x4 (l++bo u 8++(bo nL 7++L.flatMap eS)++(bo nJ 7++J.flatMap eS)) C D (.cells #[.pointer (some ⟨g,0,none⟩)] 290) (.cells #[.int .i64 (u:Int),.slice aL nL cL,.slice aJ nJ cJ,.slice aI nI cI] 78)):=hb4;have hp:=HI.out n0 11 aI cI I nI (l++bo u 8++(bo nL 7++L.flatMap eS)++(bo nJ 7++J.flatMap eS)) x4 w4 HEQ.out.2.2 (by omega) (by omega) (by have:=HNN.out;have:=HEQ.out;omega) (by have:=HNN.out;have:=HEQ.out;omega) HF.out.2.2 (fun W' x' h=>HRI.out W' x' (HB.out.st.trans h)) hb4.sz hb4.wr (by have:=HL3.out;omega);clear hb4;go_wp2_with fail
 refine hp.mono ?_;rintro e w5 ⟨rfl,hp5⟩;have HP:Hid (WP n0 g w x (l++bo u 8++(bo nL 7++L.flatMap eS)++(bo nJ 7++J.flatMap eS)++(bo nI 11++I.flatMap eI)) w5):=(HB.out.next hp5).elim fun _ h=>h.out
 clear hp hp5;go_wp2_with fail
 go_end0
 exact ⟨rfl,HP.out⟩
open Bt (Wr Fw Kept bo bo_length tb tb_length bys bys_length tx pk)
/- The kinds of right messages. -/
theorem gM_kind {m:Msg} (h:gM m=true):(m.kd=1∧okR m.rk∧eM m=bo 0 2++eR m.rk)∨(m.kd=2∧okQ m.rq∧eM m=bo 1 2++eQ m.rq)∨(m.kd=3∧okP m.rp∧eM m=bo 2 2++eP m.rp)∨(m.kd=4∧okT m.sd∧eM m=bo 3 2++eD m.sd):=by
 rcases gM_ok h with ⟨o,e⟩ | ⟨o,e⟩ | ⟨o,e⟩ | ⟨o,e⟩
 ·exact .inl ⟨by rw [e];rfl,o,by rw [e];rfl⟩
 ·exact .inr (.inl ⟨by rw [e];rfl,o,by rw [e];rfl⟩)
 ·exact .inr (.inr (.inl ⟨by rw [e];rfl,o,by rw [e];rfl⟩))
 ·exact .inr (.inr (.inr ⟨by rw [e];rfl,o,by rw [e];rfl⟩))
theorem RdV.of {α:Type} {f:α→List Value} {n g N:Nat} {w w3 W':World} {a:Option Addr} {l:List α} {x x':Value} (h:RdV f n w a l) (hb:Below w.heap.size w w3) (hst:Wst g w3 x W' x') (hF:∀k,Fw g x k→w.heap.size≤k):RdV f n W' a l:=
 h.later (hb.trans (hst.below hb.size hF))
open Bt (Rr Kept tb bys tb_length bys_length tx u8s dn)
theorem owns_later {W W':World} {b:Nat} {e:TypeId} {sz:Nat} {v:Value} {n:Nat} {xs:List Value} (h:W.ownsRow b e sz v n xs) (hb:Below W.heap.size W W'):W'.ownsRow b e sz v n xs:=owns_block h fun g _ hg=>hb.block g hg
open Bt (tx pk tb bys)
def MV (w:World) (m:Msg) (ct:List Value):Prop:=∃aL aJ aI cL cJ cI,ct=mgv m aL aJ aI cL cJ cI∧MR w m aL aJ aI
section
variable {w w':World} {m m':Msg} {ct dt:List Value}
theorem MV.later (h:MV w m ct) (hb:Below w.heap.size w w'):MV w' m ct:=by
 obtain ⟨aL,aJ,aI,cL,cJ,cI,e,hr⟩:=h;exact ⟨aL,aJ,aI,cL,cJ,cI,e,hr.later hb⟩
theorem MV.len (h:MV w m ct):ct.length=26:=by
 obtain ⟨aL,aJ,aI,cL,cJ,cI,rfl,hr⟩:=h;rfl
theorem MV.one (h:MV w m ct):ct.all (·.oneCell')=true:=by
 obtain ⟨aL,aJ,aI,cL,cJ,cI,rfl,hr⟩:=h;rfl
end
/- A message in a block, opaque. -/
def MB (w:World) (B:Nat) (ct:List Value):Prop:=w.heap[B]? =some (.cells ct.toArray 92 (0,0))
theorem MB.later {w w':World} {B:Nat} {ct:List Value} (h:MB w B ct) (hb:Below w.heap.size w w'):MB w' B ct:=row_later h hb
theorem MB.all {w:World} {B:Nat} {ct:List Value} (h:MB w B ct):w.rangeAt B 0 ct:=ra_of h 0 ct (by simp)
theorem MB.new (w:World) (ct:List Value):MB (w.alloc (.cells ct.toArray 92)) w.heap.size ct:=heap_alloc_last w _
theorem szMv {w:World} {m:Msg} {ct:List Value} (h:MV w m ct):(Tryz.prog.info? 92).map (·.size)=some ct.length:=by rw [h.len];exact szMg
theorem mv_len {m:Msg} (h:gM m=true):m.rk.2.1.length<4611686018427387904∧m.rk.2.2.1.length<4611686018427387904∧m.rk.2.2.2.length<4611686018427387904∧m.sd.2.2.size<4611686018427387904:=by
 rcases gM_cases h with ⟨a,e⟩ | ⟨a,e⟩ | ⟨a,e⟩ | ⟨a,e⟩
 ·simp only [gR,Bool.and_eq_true,decide_eq_true_eq] at a;rw [e];refine ⟨by show m.rk.2.1.length<_;omega,by show m.rk.2.2.1.length<_;omega,by show m.rk.2.2.2.length<_;omega,(show 0<4611686018427387904 by decide)⟩
 ·rw [e];exact ⟨(show 0<4611686018427387904 by decide),(show 0<4611686018427387904 by decide),(show 0<4611686018427387904 by decide),(show 0<4611686018427387904 by decide)⟩
 ·rw [e];exact ⟨(show 0<4611686018427387904 by decide),(show 0<4611686018427387904 by decide),(show 0<4611686018427387904 by decide),(show 0<4611686018427387904 by decide)⟩
 ·simp only [gD,Bool.and_eq_true,decide_eq_true_eq] at a;rw [e];exact ⟨(show 0<4611686018427387904 by decide),(show 0<4611686018427387904 by decide),(show 0<4611686018427387904 by decide),by show m.sd.2.2.size<_;omega⟩
/- Examples 1 and 2. -/
def x1:Msg:=⟨2,zR,(1,3),zP,zD⟩
def x2:Msg:=⟨4,zR,zQ,zP,(2,(1,2),tx [65])⟩
open Bt (tx)
set_option maxRecDepth 100000 in
set_option maxHeartbeats 2000000 in
theorem good_1 (m:Msg) (aL aJ aI:Option Addr) (cL cJ cI:Nat) (w:World) (hr:MR w m aL aJ aI) (k1:m.kd=1):
  Calls Tryz.prog 161 #[.agg (mgv m aL aJ aI cL cJ cI).toArray] w fun e w'=>e=.returned (.bool (gM m))∧Below w.heap.size w w':=by
 unfold mgv;have HR:Hid (MR w m aL aJ aI):=hr;clear hr;have hM:MgAt (w.alloc (.cells (mgl m (.slice aL m.rk.2.1.length cL) (.slice aJ m.rk.2.2.1.length cJ) (.slice aI m.rk.2.2.2.length cI)).toArray 92)) w.heap.size m (.slice aL m.rk.2.1.length cL) (.slice aJ m.rk.2.2.1.length cJ) (.slice aI m.rk.2.2.2.length cI):=heap_alloc_last w _;have hB:=below_alloc w (.cells (mgl m (.slice aL m.rk.2.1.length cL) (.slice aJ m.rk.2.2.1.length cJ) (.slice aI m.rk.2.2.2.length cI)).toArray 92);obtain ⟨ct,hct⟩:∃c,(mgl m (.slice aL m.rk.2.1.length cL) (.slice aJ m.rk.2.2.1.length cJ) (.slice aI m.rk.2.2.2.length cI)).toArray=c:=⟨_,rfl⟩;rw [hct] at hB;rw [hct];have HM:Hid (MgAt (w.alloc (.cells ct 92)) w.heap.size m (.slice aL m.rk.2.1.length cL) (.slice aJ m.rk.2.2.1.length cJ) (.slice aI m.rk.2.2.2.length cI)):=by have h:=hM;rw [hct] at h;exact h
 clear hM hct;have HG:Hid (gM m=(gR m.rk&&nP ⟨m.kd,zR,m.rq,m.rp,m.sd⟩)):=gM_1 k1;have hP:∀W,Below w.heap.size w W→_:=fun W hb=>goodRekey_any m.rk aL aJ aI cL cJ cI W (HR.out.l.later hb) (HR.out.j.later hb) (HR.out.i.later hb) HR.out.nl HR.out.nj HR.out.ni
 have hN:=noParts_any ⟨m.kd,zR,m.rq,m.rp,m.sd⟩ none none none 0 0 0;have hN:=fun W=>hN W (by show (0:Nat)<4611686018427387904;decide) (by show (0:Nat)<4611686018427387904;decide) (by show (0:Nat)<4611686018427387904;decide)
 obtain ⟨g,hg⟩:∃g,gR m.rk=g:=⟨_,rfl⟩;obtain ⟨g',hg'⟩:∃g,nP ⟨m.kd,zR,m.rq,m.rp,m.sd⟩=g:=⟨_,rfl⟩;simp only [hg,hg'] at HG hP hN;rw [HG.out];clear HG hg hg';have hk:=k1;go_enter Tryz.func161,Tryz.ntmps161;go_upto_region 2 with (fail)
 generalize w.alloc (.cells ct 92)=w1 at *;obtain ⟨B,hBe⟩:∃B,w.heap.size=B:=⟨_,rfl⟩;have HBe:Hid (w.heap.size=B):=hBe;rw [hBe] at HM ⊢;clear hBe;have HB:Hid (Below w.heap.size w w1):=hB;clear hB;have ck:=HM.out.kind;rw [hk] at ck;clear hk;have f1:decide ((1:Int)=1)=true:=by simp
 have HK:Hid (w1.rangeAt B 1 (rkl m.rk.1 (.slice aL m.rk.2.1.length cL) (.slice aJ m.rk.2.2.1.length cJ) (.slice aI m.rk.2.2.2.length cI))):=HM.out.rk;have hP:=hP w1 HB.out;clear k1;go_wp2_with (refine ldM HK.out Tryz.underlying78 rfl szRk _ rfl rfl rfl ?_)
 refine hP.mono ?_;rintro r w2 ⟨rfl,hb2⟩;have HB2:Hid (Below w.heap.size w w2):=Below.join HB.out hb2;have hM2:=HM.out.later hb2;have HM2:Hid (MgAt w2 B m (.slice aL m.rk.2.1.length cL) (.slice aJ m.rk.2.2.1.length cJ) (.slice aI m.rk.2.2.2.length cI)):=hM2;have HT:Hid (w2.there B 1 4∧w2.there B 5 2∧w2.there B 7 15∧w2.there B 22 4):=⟨hM2.there 1 4 (by omega),hM2.there 5 2 (by omega),hM2.there 7 15 (by omega),hM2.there 22 4 (by omega)⟩;clear hM2 hb2 HM HB ck;clear HK hP;go_upto_region 11 with (refine stM (cs:=rkl 0 (.slice none 0 0) (.slice none 0 0) (.slice none 0 0)) HT.out.1 szRk rfl rfl _ _ rfl rfl rfl ?_)
 have hM3:=HM2.out.setR zR (.slice none 0 0) (.slice none 0 0) (.slice none 0 0);have hB3:=upd_below (B:=B) (N:=w.heap.size) (by rw [HBe.out];omega) (rkl 0 (.slice none 0 0) (.slice none 0 0) (.slice none 0 0)) 1 HB2.out;have e0:rkl zR.1 (.slice none 0 0) (.slice none 0 0) (.slice none 0 0)=rkl 0 (.slice none 0 0) (.slice none 0 0) (.slice none 0 0):=rfl;rw [e0] at hM3;generalize w2.setCells B 1 (rkl 0 (.slice none 0 0) (.slice none 0 0) (.slice none 0 0))=w3 at *;clear e0 HT;have HB3:Hid (Below w.heap.size w w3):=hB3
 cases g with
 | false=>
  go_wp2_with fail
  go_ret;exact ⟨rfl,HB3.out⟩
 | true=>
  have HA:Hid _:=hM3.all;have hN:=hN w3;clear hM3 hB3 HM2 HB2;go_wp2_with (refine ldM HA.out Tryz.underlying92 rfl szMg _ rfl rfl rfl ?_)
  refine hN.mono ?_;rintro r w4 ⟨rfl,hb4⟩;have HB4:Hid (Below w.heap.size w w4):=Below.join HB3.out hb4;clear hb4 hN HB3 HA;go_wp2_with fail
  go_ret;exact ⟨by cases g' <;> rfl,HB4.out⟩
/- The kinds of right messages. -/
set_option maxRecDepth 100000 in
set_option maxHeartbeats 2000000 in
theorem encode_1 (m:Msg) (aL aJ aI:Option Addr) (cL cJ cI:Nat) (w:World) (hr:MR w m aL aJ aI) (hg:gM m=true) (k1:m.kd=1):
  Calls Tryz.prog 114 #[.agg (mgv m aL aJ aI cL cJ cI).toArray] w fun e w'=>e=.returned (.tuple #[.string (enS m),.int .i64 0])∧Below w.heap.size w w':=by
 have HR:Hid (MR w m aL aJ aI):=hr;have hG:=fun W (hb:Below w.heap.size w W)=>good_1 m aL aJ aI cL cJ cI W (hr.later hb) k1
 clear hr;unfold mgv at hG ⊢;have hM:MgAt (w.alloc (.cells (mgl m (.slice aL m.rk.2.1.length cL) (.slice aJ m.rk.2.2.1.length cJ) (.slice aI m.rk.2.2.2.length cI)).toArray 92)) w.heap.size m (.slice aL m.rk.2.1.length cL) (.slice aJ m.rk.2.2.1.length cJ) (.slice aI m.rk.2.2.2.length cI):=heap_alloc_last w _;have hB:=below_alloc w (.cells (mgl m (.slice aL m.rk.2.1.length cL) (.slice aJ m.rk.2.2.1.length cJ) (.slice aI m.rk.2.2.2.length cI)).toArray 92);have HLS:Hid (∃nL nJ nI,m.rk.2.1.length=nL∧m.rk.2.2.1.length=nJ∧m.rk.2.2.2.length=nI):=⟨_,_,_,rfl,rfl,rfl⟩;obtain ⟨nL,nJ,nI,hnL,hnJ,hnI⟩:=HLS.out;simp only [hnL,hnJ,hnI] at hG hM hB;rw [hnL,hnJ,hnI];have HEQ:Hid (m.rk.2.1.length=nL∧m.rk.2.2.1.length=nJ∧m.rk.2.2.2.length=nI):=⟨hnL,hnJ,hnI⟩;clear hnL hnJ hnI HLS;obtain ⟨ct,hct⟩:∃c,(mgl m (.slice aL nL cL) (.slice aJ nJ cJ) (.slice aI nI cI)).toArray=c:=⟨_,rfl⟩;have HCT:Hid ((mgl m (.slice aL nL cL) (.slice aJ nJ cJ) (.slice aI nI cI)).toArray=ct):=hct;rw [hct] at hB;rw [hct];have HM:Hid (MgAt (w.alloc (.cells ct 92)) w.heap.size m (.slice aL nL cL) (.slice aJ nJ cJ) (.slice aI nI cI)):=by have h:=hM;rw [hct] at h;exact h
 clear hM hct;simp only [hg] at hG
 have hkinds:m.kd=1∧okR m.rk∧eM m=bo 0 2++eR m.rk:=by
  rcases gM_kind hg with h | ⟨h,-⟩ | ⟨h,-⟩ | ⟨h,-⟩
  ·exact h
  all_goals (rw [k1] at h;cases h)
 have HE:Hid (enS m=tx (pk (eM m))∧enE m=0):=by unfold Hid enS enE;rw [hg];exact ⟨rfl,rfl⟩
 rw [HE.out.1];clear hg HE k1;have hG:=hG _ hB;have HK:Hid _:=hkinds;clear hkinds;go_enter Tryz.func114,Tryz.ntmps114;go_upto_region 1 with (fail)
 generalize w.alloc (.cells ct 92)=w1 at *;obtain ⟨B,hBe⟩:∃B,w.heap.size=B:=⟨_,rfl⟩;have HBe:Hid (w.heap.size=B):=hBe;rw [hBe] at HM ⊢;clear hBe;have HA:Hid _:=HM.out.all;have HB1:Hid (Below w.heap.size w w1):=hB;clear hB;go_wp2_with (refine ldM HA.out Tryz.underlying92 rfl szMg _ rfl rfl rfl ?_)
 refine hG.mono ?_;rintro e w2 ⟨rfl,hb2⟩;have HB2:Hid (Below w.heap.size w w2):=Below.join HB1.out hb2;have HM2:Hid (MgAt w2 B m (.slice aL nL cL) (.slice aJ nJ cJ) (.slice aI nI cI)):=HM.out.later hb2;clear hb2 hG HA HB1 HM;go_upto_region 4 with (go_at_call 162;refine (Bt.new_any _).mono ?_;rintro r w' ⟨rfl,rfl⟩)
 have hw3:=Wr.new w2;have hb3:=below_alloc w2 (.cells #[.int .i64 0,.slice none 0 0] 342);have hM3:=HM2.out.later hb3;have hsz3:(w2.alloc (.cells #[.int .i64 0,.slice none 0 0] 342)).heap.size=w2.heap.size+1:=by simp
 have HF:Hid (∀k,Fw w2.heap.size (.slice none 0 0) k→w.heap.size≤k):=by
  intro k hf;rcases hf with rfl | hf
  ·exact HB2.out.size
  ·cases hf
 have HW3:Hid (Below w.heap.size w (w2.alloc (.cells #[.int .i64 0,.slice none 0 0] 342))):=Below.join HB2.out hb3;rw [←hsz3] at hw3;obtain ⟨g,hge⟩:∃g,w2.heap.size=g:=⟨_,rfl⟩;rw [hge] at hw3 HF hsz3;try simp only [hge]
 have HGE:Hid (w2.heap.size=g):=hge;clear hge hb3;generalize w2.alloc (.cells #[.int .i64 0,.slice none 0 0] 342)=w3 at *
 have HB0:Hid (WB w3.heap.size g w3 (w3.alloc (.cells #[.pointer (some ⟨g,0,none⟩)] 290)) (.slice none 0 0) (.slice none 0 0) [] w3.heap.size B (.cells #[.pointer (some ⟨g,0,none⟩)] 290) (.cells (mgl m (.slice aL nL cL) (.slice aJ nJ cJ) (.slice aI nI cI)).toArray 92)):=by
  refine ⟨hw3.alloc _,by simp,(Wst.refl _ _ _).alloc _,heap_alloc_last _ _,hM3.later (below_alloc _ _),fun hf=>?_,fun hf=>?_⟩
  ·have:=hw3.inHeap _ hf;omega
  ·rcases hf with h | h
   ·have:=row_lt HM2.out;have:=HGE.out;omega
   ·cases h
 rw [show g+1=w3.heap.size from hsz3.symm];obtain ⟨OC,hOC⟩:∃o,o=Obj.cells #[.pointer (some ⟨g,0,none⟩)] 290:=⟨_,rfl⟩;have HOC:Hid (OC=Obj.cells #[.pointer (some ⟨g,0,none⟩)] 290):=hOC;rw [←hOC] at HB0;rw [←hOC];clear hOC hw3 hM3;generalize w3.alloc OC=w4 at *;have HB:Hid _:=HB0;obtain ⟨n0,hn0⟩:∃n,w3.heap.size=n:=⟨_,rfl⟩;rw [hn0] at HB0;rw [hn0];have HB:Hid (WB n0 g w3 w4 (.slice none 0 0) (.slice none 0 0) [] n0 B OC (.cells (mgl m (.slice aL nL cL) (.slice aJ nJ cJ) (.slice aI nI cI)).toArray 92)):=HB0;clear HB0 hn0 hsz3 HM2 HGE HB2;have hM4:MgAt w4 B m (.slice aL nL cL) (.slice aJ nJ cJ) (.slice aI nI cI):=HB.out.hd;have ck:=hM4.kind;have c0:=c1' (HOC.out ▸ HB.out.hc);clear hM4;obtain ⟨hkd,hok,hem⟩:=HK.out;rw [hkd] at ck;have HEM:Hid (eM m=_):=hem;clear hem HK;have hp:=wNumber_any n0 g 0 2 [] (.slice none 0 0) w4 (by omega) (by omega) (by decide) HB.out.sz HB.out.wr (by simp);go_wp2_with fail
 refine hp.mono ?_;rintro e w5 ⟨rfl,hp5⟩;obtain ⟨x5,hb5⟩:=HB.out.next hp5;rw [List.nil_append] at hb5;clear hp hp5 HB c0 ck;have hM5:MgAt w5 B m (.slice aL nL cL) (.slice aJ nJ cJ) (.slice aI nI cI):=hb5.hd;have ck:=hM5.kind;rw [hkd] at ck;have c0:=c1' (HOC.out ▸ hb5.hc);have HB:Hid (WB n0 g w3 w5 (.slice none 0 0) x5 (bo 0 2) n0 B OC (.cells (mgl m (.slice aL nL cL) (.slice aJ nJ cJ) (.slice aI nI cI)).toArray 92)):=hb5;have HP:Hid _:=hM5.rk;have hp:=wRekey_any n0 g m.rk aL aJ aI cL cJ cI (bo 0 2) x5 w5 hok HB.out.sz HB.out.wr (by simp) (fun W' x' h=>RdV.of (N:=0) HR.out.l HW3.out (HB.out.st.trans h) HF.out) (fun W' x' h=>RdV.of (N:=0) HR.out.j HW3.out (HB.out.st.trans h) HF.out) (fun W' x' h=>RdV.of (N:=0) HR.out.i HW3.out (HB.out.st.trans h) HF.out);rw [HEQ.out.1,HEQ.out.2.1,HEQ.out.2.2] at hp;clear hok hb5 hM5 hkd;go_wp2_with (refine ldM HP.out Tryz.underlying78 rfl szRk _ rfl rfl rfl ?_)
 refine hp.mono ?_;rintro e w6 ⟨rfl,hp6⟩;obtain ⟨x6,hb6⟩:=HB.out.next hp6;clear hp hp6 HB c0 ck;have c0:=c1' (HOC.out ▸ hb6.hc);have HBF:Hid (Below w.heap.size w w6):=HW3.out.trans (hb6.st.below HW3.out.size HF.out);have hy:=Bt.bytes_any n0 g _ x6 w6 hb6.wr;rw [←HEM.out] at hy;clear hb6;go_wp2_with fail
 refine hy.mono ?_;rintro e w7 ⟨rfl,rfl⟩;go_wp2_with fail
 go_ret2
 exact ⟨rfl,HBF.out⟩
theorem ld_ex {w:World} {o:Oper} {a:Act} {B off:Nat} {T:TypeId} {d:TypeDesc} {cs:List Value} {x:Operand} (hc:w.rangeAt B off cs) (hu:Tryz.prog.underlying T=some d) (hd:d.isRow=true) (hi:(Tryz.prog.info? T).map (·.size)=some cs.length) (ho:o.op=.load T x) (hx:a.eval x=.pointer (some ⟨B,off,none⟩)):
  (execOp a.eval o).run Tryz.prog w=.ok (.value (.agg cs.toArray)) w:=by
 have h:=run_loadAt_mid w B off T cs d hc hu hd hi;simp [execOp,ho,hx,h,Sem.run_bind,Result.andThen]
theorem eq_take {α:Type} {l l':List α} {k:Nat} (h:k<l.length) (h':k<l'.length) (e:l.take k=l'.take k) (x:l[k]=l'[k]):l.take (k+1)=l'.take (k+1):=by
 rw [List.take_succ_eq_append_getElem h,List.take_succ_eq_append_getElem h',e,x]
set_option maxRecDepth 100000 in
set_option maxHeartbeats 1000000 in
theorem sameS_any (a a':Option Addr) (c c':Nat) (l l':List (Int×Int)) (w:World) (h1:RdV stl 2 w a l) (h2:RdV stl 2 w a' l') (hl:l.length<4611686018427387904) (hl':l'.length<4611686018427387904):
  Calls Tryz.prog 149 #[.slice a l.length c,.slice a' l'.length c'] w fun e w'=>(∃b,e=.returned (.bool b)∧(b=true↔l=l'))∧Below w.heap.size w w':=by
 obtain ⟨n,hn⟩:∃n,l.length=n:=⟨_,rfl⟩;obtain ⟨n',hn'⟩:∃n,l'.length=n:=⟨_,rfl⟩;have HN:Hid (l.length=n∧l'.length=n'):=⟨hn,hn'⟩;rw [hn] at hl;rw [hn'] at hl';rw [hn,hn'];clear hn hn';by_cases hne:n=n'
 ·subst hne;have d0:((n:Int)!=(n:Int))=false:=by simp
  go_enter Tryz.func149,Tryz.ntmps149;go_wp2_with fail
  go_loopw [13] (fun i wx=>∃k:Nat,k≤n∧i=.int .i64 (k:Int)∧l.take k=l'.take k∧Below w.heap.size w wx) (fun i _=>n - (intOf i).toNat)
  case atStart=>exact ⟨0,by omega,rfl,rfl,Below.refl _ _⟩
  case round=>
   obtain ⟨k,hk,rfl,hE,hb⟩:=hrel;have HE:Hid (l.take k=l'.take k):=hE;have HB:Hid (Below w.heap.size w wr):=hb;clear hE hb;by_cases hkn:k<n
   ·have hkl:k<l.length:=by rw [HN.out.1];exact hkn
    have hkl':k<l'.length:=by rw [HN.out.2];exact hkn
    have i1:(0:Int)≤(k:Int):=by omega
    have i2:(k:Int)<(n:Int):=by omega
    obtain ⟨b,o,rfl,r1⟩:=h1 k hkl;obtain ⟨b',o',rfl,r2⟩:=h2 k hkl';have r1:=ra_later r1 HB.out;have r2:=ra_later r2 HB.out;by_cases hpp:l[k]=l'[k]
    ·have HX:Hid (l.take (k+1)=l'.take (k+1)):=eq_take hkl hkl' HE.out hpp;have hd:decide (l[k]=l'[k])=true:=decide_eq_true hpp;generalize l[k]=p at *;generalize l'[k]=p2 at *;go_upto_region 6 with (fail)
     have hS0:wr.drew.rangeAt b (o+k * 2) (stl p)∧wr.drew.rangeAt b' (o'+k * 2) (stl p2):=⟨r1,r2⟩;clear r1 r2 hpp;refine wp_region_held_drew (S:=fun W=>W.rangeAt b (o+k * 2) (stl p)∧W.rangeAt b' (o'+k * 2) (stl p2)) (by kernel_rfl) hS0 (fun hHeld=>?_);refine opX 0 (.slice (some ⟨b,o,none⟩) n c) rfl ?_;go_frame;refine opX 1 (.int .i64 (k:Int)) rfl ?_;go_frame;refine opX 2 (.pointer (some ⟨b,o+k * 2,none⟩)) rfl ?_;go_frame;refine opY 3 (.agg (stl p).toArray) rfl (fun w hSw=>ld_ex hSw.1 Tryz.underlying165 rfl szSeat rfl rfl) ?_;go_frame;refine opX 4 (.slice (some ⟨b',o',none⟩) n c') rfl ?_;go_frame;refine opX 5 (.int .i64 (k:Int)) rfl ?_;go_frame;refine opX 6 (.pointer (some ⟨b',o'+k * 2,none⟩)) rfl ?_;go_frame;refine opY 7 (.agg (stl p2).toArray) rfl (fun w hSw=>ld_ex hSw.2 Tryz.underlying165 rfl szSeat rfl rfl) ?_;go_frame;refine opY 8 (.bool (!true)) rfl (fun w hSw=>ne_exec (hd ▸ run_eqPr 165 (w:=w) 9998 p p2 (.inr (.inl rfl))) Tryz.eqGuardType165 rfl rfl rfl) ?_;go_frame;refine wpAnyH_done (by kernel_rfl) ?_ _;go_wp2_with fail
     go_roundw
     case rel=>exact ⟨k+1,by omega,by go_num,HX.out,Below.join HB.out (drew_below wr)⟩
     case measure=>simp [intOf];omega
    ·have HX:Hid (l≠l'):=fun e=>hpp (by subst e;rfl)
     have hd:decide (l[k]=l'[k])=false:=decide_eq_false hpp;generalize l[k]=p at *;generalize l'[k]=p2 at *;go_upto_region 6 with (fail)
     have hS0:wr.drew.rangeAt b (o+k * 2) (stl p)∧wr.drew.rangeAt b' (o'+k * 2) (stl p2):=⟨r1,r2⟩;clear r1 r2 hpp;refine wp_region_held_drew (S:=fun W=>W.rangeAt b (o+k * 2) (stl p)∧W.rangeAt b' (o'+k * 2) (stl p2)) (by kernel_rfl) hS0 (fun hHeld=>?_);refine opX 0 (.slice (some ⟨b,o,none⟩) n c) rfl ?_;go_frame;refine opX 1 (.int .i64 (k:Int)) rfl ?_;go_frame;refine opX 2 (.pointer (some ⟨b,o+k * 2,none⟩)) rfl ?_;go_frame;refine opY 3 (.agg (stl p).toArray) rfl (fun w hSw=>ld_ex hSw.1 Tryz.underlying165 rfl szSeat rfl rfl) ?_;go_frame;refine opX 4 (.slice (some ⟨b',o',none⟩) n c') rfl ?_;go_frame;refine opX 5 (.int .i64 (k:Int)) rfl ?_;go_frame;refine opX 6 (.pointer (some ⟨b',o'+k * 2,none⟩)) rfl ?_;go_frame;refine opY 7 (.agg (stl p2).toArray) rfl (fun w hSw=>ld_ex hSw.2 Tryz.underlying165 rfl szSeat rfl rfl) ?_;go_frame;refine opY 8 (.bool (!false)) rfl (fun w hSw=>ne_exec (hd ▸ run_eqPr 165 (w:=w) 9998 p p2 (.inr (.inl rfl))) Tryz.eqGuardType165 rfl rfl rfl) ?_;go_frame;refine wpAnyH_done (by kernel_rfl) ?_ _;go_wp2_with fail
     go_ret;exact ⟨⟨false,rfl,by simp;exact HX.out⟩,Below.join HB.out (drew_below wr)⟩
   ·have hkn':decide ((k:Int)<(n:Int))=false:=by simp;omega
    have HX:Hid (l=l'):=by
     have e:=HE.out;rw [List.take_of_length_le (by rw [HN.out.1];omega),List.take_of_length_le (by rw [HN.out.2];omega)] at e;exact e
    go_wp2_with fail
    go_ret;exact ⟨⟨true,rfl,by simp;exact HX.out⟩,HB.out⟩
 ·have HX:Hid (l≠l'):=fun e=>hne (by rw [←HN.out.1,←HN.out.2,e])
  have d0:((n:Int)!=(n':Int))=true:=by simp;omega
  have d1:¬(n:Int)=(n':Int):=by omega
  go_enter Tryz.func149,Tryz.ntmps149;go_wp2_with fail
  go_ret;exact ⟨⟨false,rfl,by simp;exact HX.out⟩,Below.refl _ _⟩
set_option maxRecDepth 100000 in
set_option maxHeartbeats 1000000 in
theorem sameI_any (a a':Option Addr) (c c':Nat) (l l':List ((Int×Int)×((Int×Int)×(Int×Int)))) (w:World) (h1:RdV itl 6 w a l) (h2:RdV itl 6 w a' l') (hl:l.length<4611686018427387904) (hl':l'.length<4611686018427387904):
  Calls Tryz.prog 150 #[.slice a l.length c,.slice a' l'.length c'] w fun e w'=>(∃b,e=.returned (.bool b)∧(b=true↔l=l'))∧Below w.heap.size w w':=by
 obtain ⟨n,hn⟩:∃n,l.length=n:=⟨_,rfl⟩;obtain ⟨n',hn'⟩:∃n,l'.length=n:=⟨_,rfl⟩;have HN:Hid (l.length=n∧l'.length=n'):=⟨hn,hn'⟩;rw [hn] at hl;rw [hn'] at hl';rw [hn,hn'];clear hn hn';by_cases hne:n=n'
 ·subst hne;have d0:((n:Int)!=(n:Int))=false:=by simp
  go_enter Tryz.func150,Tryz.ntmps150;go_wp2_with fail
  go_loopw [13] (fun i wx=>∃k:Nat,k≤n∧i=.int .i64 (k:Int)∧l.take k=l'.take k∧Below w.heap.size w wx) (fun i _=>n - (intOf i).toNat)
  case atStart=>exact ⟨0,by omega,rfl,rfl,Below.refl _ _⟩
  case round=>
   obtain ⟨k,hk,rfl,hE,hb⟩:=hrel;have HE:Hid (l.take k=l'.take k):=hE;have HB:Hid (Below w.heap.size w wr):=hb;clear hE hb;by_cases hkn:k<n
   ·have hkl:k<l.length:=by rw [HN.out.1];exact hkn
    have hkl':k<l'.length:=by rw [HN.out.2];exact hkn
    have i1:(0:Int)≤(k:Int):=by omega
    have i2:(k:Int)<(n:Int):=by omega
    obtain ⟨b,o,rfl,r1⟩:=h1 k hkl;obtain ⟨b',o',rfl,r2⟩:=h2 k hkl';have r1:=ra_later r1 HB.out;have r2:=ra_later r2 HB.out;by_cases hpp:l[k]=l'[k]
    ·have HX:Hid (l.take (k+1)=l'.take (k+1)):=eq_take hkl hkl' HE.out hpp;have hd:decide (l[k]=l'[k])=true:=decide_eq_true hpp;generalize l[k]=p at *;generalize l'[k]=p2 at *;go_upto_region 6 with (fail)
     have hS0:wr.drew.rangeAt b (o+k * 6) (itl p)∧wr.drew.rangeAt b' (o'+k * 6) (itl p2):=⟨r1,r2⟩;clear r1 r2 hpp;refine wp_region_held_drew (S:=fun W=>W.rangeAt b (o+k * 6) (itl p)∧W.rangeAt b' (o'+k * 6) (itl p2)) (by kernel_rfl) hS0 (fun hHeld=>?_);refine opX 0 (.slice (some ⟨b,o,none⟩) n c) rfl ?_;go_frame;refine opX 1 (.int .i64 (k:Int)) rfl ?_;go_frame;refine opX 2 (.pointer (some ⟨b,o+k * 6,none⟩)) rfl ?_;go_frame;refine opY 3 (.agg (itl p).toArray) rfl (fun w hSw=>ld_ex hSw.1 Tryz.underlying121 rfl szItem rfl rfl) ?_;go_frame;refine opX 4 (.slice (some ⟨b',o',none⟩) n c') rfl ?_;go_frame;refine opX 5 (.int .i64 (k:Int)) rfl ?_;go_frame;refine opX 6 (.pointer (some ⟨b',o'+k * 6,none⟩)) rfl ?_;go_frame;refine opY 7 (.agg (itl p2).toArray) rfl (fun w hSw=>ld_ex hSw.2 Tryz.underlying121 rfl szItem rfl rfl) ?_;go_frame;refine opY 8 (.bool (!true)) rfl (fun w hSw=>ne_exec (hd ▸ run_eqIm (w:=w) 9996 p p2) Tryz.eqGuardType121 rfl rfl rfl) ?_;go_frame;refine wpAnyH_done (by kernel_rfl) ?_ _;go_wp2_with fail
     go_roundw
     case rel=>exact ⟨k+1,by omega,by go_num,HX.out,Below.join HB.out (drew_below wr)⟩
     case measure=>simp [intOf];omega
    ·have HX:Hid (l≠l'):=fun e=>hpp (by subst e;rfl)
     have hd:decide (l[k]=l'[k])=false:=decide_eq_false hpp;generalize l[k]=p at *;generalize l'[k]=p2 at *;go_upto_region 6 with (fail)
     have hS0:wr.drew.rangeAt b (o+k * 6) (itl p)∧wr.drew.rangeAt b' (o'+k * 6) (itl p2):=⟨r1,r2⟩;clear r1 r2 hpp;refine wp_region_held_drew (S:=fun W=>W.rangeAt b (o+k * 6) (itl p)∧W.rangeAt b' (o'+k * 6) (itl p2)) (by kernel_rfl) hS0 (fun hHeld=>?_);refine opX 0 (.slice (some ⟨b,o,none⟩) n c) rfl ?_;go_frame;refine opX 1 (.int .i64 (k:Int)) rfl ?_;go_frame;refine opX 2 (.pointer (some ⟨b,o+k * 6,none⟩)) rfl ?_;go_frame;refine opY 3 (.agg (itl p).toArray) rfl (fun w hSw=>ld_ex hSw.1 Tryz.underlying121 rfl szItem rfl rfl) ?_;go_frame;refine opX 4 (.slice (some ⟨b',o',none⟩) n c') rfl ?_;go_frame;refine opX 5 (.int .i64 (k:Int)) rfl ?_;go_frame;refine opX 6 (.pointer (some ⟨b',o'+k * 6,none⟩)) rfl ?_;go_frame;refine opY 7 (.agg (itl p2).toArray) rfl (fun w hSw=>ld_ex hSw.2 Tryz.underlying121 rfl szItem rfl rfl) ?_;go_frame;refine opY 8 (.bool (!false)) rfl (fun w hSw=>ne_exec (hd ▸ run_eqIm (w:=w) 9996 p p2) Tryz.eqGuardType121 rfl rfl rfl) ?_;go_frame;refine wpAnyH_done (by kernel_rfl) ?_ _;go_wp2_with fail
     go_ret;exact ⟨⟨false,rfl,by simp;exact HX.out⟩,Below.join HB.out (drew_below wr)⟩
   ·have hkn':decide ((k:Int)<(n:Int))=false:=by simp;omega
    have HX:Hid (l=l'):=by
     have e:=HE.out;rw [List.take_of_length_le (by rw [HN.out.1];omega),List.take_of_length_le (by rw [HN.out.2];omega)] at e;exact e
    go_wp2_with fail
    go_ret;exact ⟨⟨true,rfl,by simp;exact HX.out⟩,HB.out⟩
 ·have HX:Hid (l≠l'):=fun e=>hne (by rw [←HN.out.1,←HN.out.2,e])
  have d0:((n:Int)!=(n':Int))=true:=by simp;omega
  have d1:¬(n:Int)=(n':Int):=by omega
  go_enter Tryz.func150,Tryz.ntmps150;go_wp2_with fail
  go_ret;exact ⟨⟨false,rfl,by simp;exact HX.out⟩,Below.refl _ _⟩
end Go.Proofs.YtoimkngkcliinaaGreatDoor.Wi
