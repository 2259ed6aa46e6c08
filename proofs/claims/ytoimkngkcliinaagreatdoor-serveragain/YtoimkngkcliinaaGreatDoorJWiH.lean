/- WiH, WiI, WiJ, WiPa, joined. -/
import Derived.Test.YtoimkngkcliinaaGreatDoorJWiY
import Derived.Test.YtoimkngkcliinaaGreatDoorJWiA
import Derived.Test.YtoimkngkcliinaaGreatDoorHd
import Derived.Deep.AppendLies
namespace Go.Proofs.YtoimkngkcliinaaGreatDoor.Wi
open Go.RowKit Go.Maps
set_option linter.unusedVariables false
set_option linter.unusedSimpArgs false
set_option maxRecDepth 100000 in
set_option maxHeartbeats 1000000 in
theorem sameR_any (r r':Int×(List (Int×Int)×(List (Int×Int)×List ((Int×Int)×((Int×Int)×(Int×Int)))))) (aL aJ aI bL bJ bI:Option Addr) (cL cJ cI dL dJ dI:Nat) (w:World) (rL:RdV stl 2 w aL r.2.1) (rJ:RdV stl 2 w aJ r.2.2.1) (rI:RdV itl 6 w aI r.2.2.2) (qL:RdV stl 2 w bL r'.2.1) (qJ:RdV stl 2 w bJ r'.2.2.1) (qI:RdV itl 6 w bI r'.2.2.2)
  (n1:r.2.1.length<4611686018427387904) (n2:r.2.2.1.length<4611686018427387904) (n3:r.2.2.2.length<4611686018427387904) (n4:r'.2.1.length<4611686018427387904) (n5:r'.2.2.1.length<4611686018427387904) (n6:r'.2.2.2.length<4611686018427387904):
  Calls Tryz.prog 99 #[.agg (rkl r.1 (.slice aL r.2.1.length cL) (.slice aJ r.2.2.1.length cJ) (.slice aI r.2.2.2.length cI)).toArray,.agg (rkl r'.1 (.slice bL r'.2.1.length dL) (.slice bJ r'.2.2.1.length dJ) (.slice bI r'.2.2.2.length dI)).toArray] w fun e w'=>(∃b,e=.returned (.bool b)∧(b=true↔r=r'))∧Below w.heap.size w w':=by
 obtain ⟨e,L,J,I⟩:=r;obtain ⟨e',L',J',I'⟩:=r';dsimp only at *;unfold rkl;have HX:Hid (((e,L,J,I)=(e',L',J',I'))↔(e=e'∧L=L'∧J=J'∧I=I')):=by unfold Hid;simp
 have s1:=fun W (hb:Below w.heap.size w W)=>sameS_any aL bL cL dL L L' W (rL.later hb) (qL.later hb) n1 n4
 have s2:=fun W (hb:Below w.heap.size w W)=>sameS_any aJ bJ cJ dJ J J' W (rJ.later hb) (qJ.later hb) n2 n5
 have s3:=fun W (hb:Below w.heap.size w W)=>sameI_any aI bI cI dI I I' W (rI.later hb) (qI.later hb) n3 n6
 have hb1:=below_alloc w (.cells #[.int .i64 e,.slice aL L.length cL,.slice aJ J.length cJ,.slice aI I.length cI] 78);have hb2:=below_alloc (w.alloc (.cells #[.int .i64 e,.slice aL L.length cL,.slice aJ J.length cJ,.slice aI I.length cI] 78)) (.cells #[.int .i64 e',.slice bL L'.length dL,.slice bJ J'.length dJ,.slice bI I'.length dI] 78);have hA:=row_later (heap_alloc_last w (.cells #[.int .i64 e,.slice aL L.length cL,.slice aJ J.length cJ,.slice aI I.length cI] 78)) hb2;have hC:=heap_alloc_last (w.alloc (.cells #[.int .i64 e,.slice aL L.length cL,.slice aJ J.length cJ,.slice aI I.length cI] 78)) (.cells #[.int .i64 e',.slice bL L'.length dL,.slice bJ J'.length dJ,.slice bI I'.length dI] 78);rw [World.size_alloc] at hC;have hB:=Below.join hb1 hb2;clear hb1 hb2 rL rJ rI qL qJ qI n1 n2 n3 n4 n5 n6;generalize L.length=l1 at *;generalize J.length=l2 at *;generalize I.length=l3 at *;generalize L'.length=l4 at *;generalize J'.length=l5 at *;generalize I'.length=l6 at *;go_enter Tryz.func99,Tryz.ntmps99;go_upto_region 1 with (fail)
 generalize (w.alloc (.cells #[.int .i64 e,.slice aL l1 cL,.slice aJ l2 cJ,.slice aI l3 cI] 78)).alloc (.cells #[.int .i64 e',.slice bL l4 dL,.slice bJ l5 dJ,.slice bI l6 dI] 78)=w1 at *;obtain ⟨C,hCe⟩:∃C,w.heap.size+1=C:=⟨_,rfl⟩;rw [hCe] at hC ⊢;obtain ⟨A,hAe⟩:∃C,w.heap.size=C:=⟨_,rfl⟩;rw [hAe] at hA ⊢;clear hCe hAe;have HB:Hid (Below w.heap.size w w1):=hB;obtain ⟨x0,x1,x2,x3⟩:=c4 hA;obtain ⟨y0,y1,y2,y3⟩:=c4 hC;clear hB;by_cases he:e=e'
 ·subst he;have d1:(e==e)=true:=by simp
  go_wp2_with fail
  refine (s1 _ HB.out).mono ?_;rintro q w2 ⟨⟨b1,rfl,hb1⟩,hb2⟩;have hA2:=row_later hA hb2;have hC2:=row_later hC hb2;have HB2:Hid (Below w.heap.size w w2):=Below.join HB.out hb2;have H1:Hid (b1=true↔L=L'):=hb1;clear x0 x1 x2 x3 y0 y1 y2 y3 hA hC HB hb2 hb1 s1;obtain ⟨x0,x1,x2,x3⟩:=c4 hA2;obtain ⟨y0,y1,y2,y3⟩:=c4 hC2
  cases b1 with
  | false=>
   go_wp2_with fail
   go_ret;exact ⟨⟨false,rfl,by rw [HX.out];have:=H1.out;simp at this ⊢;intro h;exact absurd h this⟩,HB2.out⟩
  | true=>
   go_wp2_with fail
   refine (s2 _ HB2.out).mono ?_;rintro q w3 ⟨⟨b2,rfl,hb2⟩,hb3⟩;have hA3:=row_later hA2 hb3;have hC3:=row_later hC2 hb3;have HB3:Hid (Below w.heap.size w w3):=Below.join HB2.out hb3;have H2:Hid (b2=true↔J=J'):=hb2;clear x0 x1 x2 x3 y0 y1 y2 y3 hA2 hC2 HB2 hb3 hb2 s2;obtain ⟨x0,x1,x2,x3⟩:=c4 hA3;obtain ⟨y0,y1,y2,y3⟩:=c4 hC3
   cases b2 with
   | false=>
    go_wp2_with fail
    go_ret;exact ⟨⟨false,rfl,by rw [HX.out];have:=H2.out;simp at this ⊢;intro _ h;exact absurd h this⟩,HB3.out⟩
   | true=>
    go_wp2_with fail
    refine (s3 _ HB3.out).mono ?_;rintro q w4 ⟨⟨b3,rfl,hb3⟩,hb4⟩;have HB4:Hid (Below w.heap.size w w4):=Below.join HB3.out hb4;have H3:Hid (b3=true↔I=I'):=hb3;clear x0 x1 x2 x3 y0 y1 y2 y3 hA3 hC3 HB3 hb4 hb3 s3;go_wp2_with fail
    go_ret;exact ⟨⟨b3,by cases b3 <;> rfl,by rw [HX.out,H3.out];have h1:=H1.out;have h2:=H2.out;simp at h1 h2;exact ⟨fun h=>⟨by simp,h1,h2,h⟩,fun h=>h.2.2.2⟩⟩,HB4.out⟩
 ·have d1:(e==e')=false:=by simp [he]
  have d2:decide (e=e')=false:=by simp [he]
  go_wp2_with fail
  go_ret;exact ⟨⟨false,rfl,by rw [HX.out];simp [he]⟩,HB.out⟩
open Rt (gd)
open Sh (belB)
theorem gS_split (s:Int×Int):gS s=(gW s.1&&gL s.2):=rfl
set_option maxRecDepth 100000 in
set_option maxHeartbeats 1000000 in
theorem rSeats_any (a:Option Addr) (c:Nat) (l:List (Int×Int)) (w:World) (rd:RdV stl 2 w a l) (hl:l.length<4611686018427387904):
  Calls Tryz.prog 152 #[.slice a l.length c] w fun e w'=>e=.returned (.bool (decide (l.length≤64)&&l.all gS))∧Below w.heap.size w w':=by
 obtain ⟨n,hn⟩:∃n,l.length=n:=⟨_,rfl⟩;have HN:Hid (l.length=n):=hn;rw [hn] at hl;rw [hn];clear hn;go_enter Tryz.func152,Tryz.ntmps152;go_wp2_with fail
 go_loopw [7] (fun i wx=>∃k:Nat,k≤n∧i=.int .i64 (k:Int)∧(∀x∈l.take k,gS x=true)∧Below w.heap.size w wx) (fun i _=>n - (intOf i).toNat)
 case atStart=>exact ⟨0,by omega,rfl,by simp,Below.refl _ _⟩
 case round=>
  obtain ⟨k,hk,rfl,hA,hb⟩:=hrel;have HA:Hid (∀x∈l.take k,gS x=true):=hA;have HB:Hid (Below w.heap.size w wr):=hb;clear hA hb;by_cases hkn:k<n
  ·have hkl:k<l.length:=by rw [HN.out];exact hkn
   obtain ⟨b,o,rfl,hr⟩:=rd k hkl;have hr:=ra_later hr HB.out;unfold stl at hr;have i1:(0:Int)≤(k:Int):=by omega
   have i2:(k:Int)<(n:Int):=by omega
   have h1:=rPerson_any l[k].1;have h2:=rSlot_any l[k].2
   cases hg1:gW l[k].1 with
   | false=>
    rw [hg1] at h1;have HE:Hid (l.all gS=false):=all_no hkl (by rw [gS_split,hg1];rfl);generalize l[k]=p at *;clear hg1 h2;go_wp2_with (first | (refine ldM hr Tryz.underlying165 rfl szSeat _ rfl rfl rfl ?_) | (go_at_call 154;refine (h1 _).mono ?_;rintro r w' ⟨rfl,rfl⟩))
    go_ret;exact ⟨ret_bool (by rw [HE.out];simp),Below.plus HB.out _⟩
   | true=>
    rw [hg1] at h1
    cases hg2:gL l[k].2 with
    | false=>
     rw [hg2] at h2;have HE:Hid (l.all gS=false):=all_no hkl (by rw [gS_split,hg1,hg2];rfl);generalize l[k]=p at *;clear hg1 hg2;go_wp2_with (first | (refine ldM hr Tryz.underlying165 rfl szSeat _ rfl rfl rfl ?_) | (go_at_call 154;refine (h1 _).mono ?_;rintro r w' ⟨rfl,rfl⟩) | (go_at_call 155;refine (h2 _).mono ?_;rintro r w' ⟨rfl,rfl⟩))
     go_ret;exact ⟨ret_bool (by rw [HE.out];simp),Below.plus HB.out _⟩
    | true=>
     rw [hg2] at h2;have HA2:Hid (∀x∈l.take (k+1),gS x=true):=all_nx hkl HA.out (by rw [gS_split,hg1,hg2];rfl);generalize l[k]=p at *;clear hg1 hg2;go_wp2_with (first | (refine ldM hr Tryz.underlying165 rfl szSeat _ rfl rfl rfl ?_) | (go_at_call 154;refine (h1 _).mono ?_;rintro r w' ⟨rfl,rfl⟩) | (go_at_call 155;refine (h2 _).mono ?_;rintro r w' ⟨rfl,rfl⟩))
     go_roundw
     case rel=>exact ⟨k+1,by omega,by go_num,HA2.out,Below.plus HB.out _⟩
     case measure=>simp [intOf];omega
  ·have hkn':decide ((k:Int)<(n:Int))=false:=by simp;omega
   have HE:Hid (l.all gS=true):=all_yes (by rw [HN.out];have:k=n:=(by omega);rw [←this];exact HA.out);by_cases h64:n≤64
   ·have d1:(n:Int)≤64:=by omega
    go_wp2_with fail
    go_ret;exact ⟨ret_bool (by rw [HE.out];simp [h64]),HB.out⟩
   ·have d1:decide ((n:Int)≤64)=false:=by simp;omega
    have d2:¬(n:Int)≤64:=by omega
    have HF:Hid ((decide (n≤64)&&l.all gS)=false):=by unfold Hid;rw [decide_eq_false h64];rfl
    go_wp2_with fail
    go_ret;exact ⟨ret_bool (by first | rfl | exact HF.out.symm | (rw [HE.out];simp [h64])),HB.out⟩
theorem gI_no1 {i:(Int×Int)×((Int×Int)×(Int×Int))} (h:¬(0≤i.1.1∧i.1.1<21)):gI i=false:=by
 unfold gI;by_cases h0:0≤i.1.1
 ·rw [decide_eq_false (show ¬i.1.1<21 from fun h1=>h ⟨h0,h1⟩),Bool.and_false];rfl
 ·rw [decide_eq_false h0];rfl
theorem gI_yes1 {i:(Int×Int)×((Int×Int)×(Int×Int))} (h0:0≤i.1.1) (h1:i.1.1<21):gI i=(dpr i.1.1 i.1.2&&gB i.2):=by
 unfold gI;rw [decide_eq_true h0,decide_eq_true h1];rfl
set_option maxRecDepth 100000 in
set_option maxHeartbeats 2000000 in
theorem rRekey_any (r:Int×(List (Int×Int)×(List (Int×Int)×List ((Int×Int)×((Int×Int)×(Int×Int)))))) (aL aJ aI:Option Addr) (cL cJ cI:Nat) (w:World) (rL:RdV stl 2 w aL r.2.1) (rJ:RdV stl 2 w aJ r.2.2.1) (rI:RdV itl 6 w aI r.2.2.2) (nL:r.2.1.length<4611686018427387904) (nJ:r.2.2.1.length<4611686018427387904) (nI:r.2.2.2.length<4611686018427387904):
  Calls Tryz.prog 100 #[.agg (rkl r.1 (.slice aL r.2.1.length cL) (.slice aJ r.2.2.1.length cJ) (.slice aI r.2.2.2.length cI)).toArray] w fun e w'=>e=.returned (.bool (gR r))∧Below w.heap.size w w':=by
 obtain ⟨e,L,J,I⟩:=r;dsimp only at *;have HG:Hid (gR (e,L,J,I)=(gE e&&((decide (L.length≤64)&&L.all gS)&&((decide (J.length≤64)&&J.all gS)&&(decide (I.length≤1536)&&I.all gI))))):=rfl;have hE:=rEpoch_any e;have h1:=fun W (hb:Below w.heap.size w W)=>rSeats_any aL cL L W (rL.later hb) nL
 have h2:=fun W (hb:Below w.heap.size w W)=>rSeats_any aJ cJ J W (rJ.later hb) nJ
 obtain ⟨b1,e1⟩:∃b,(decide (L.length≤64)&&L.all gS)=b:=⟨_,rfl⟩;obtain ⟨b2,e2⟩:∃b,(decide (J.length≤64)&&J.all gS)=b:=⟨_,rfl⟩;obtain ⟨b0,e0⟩:∃b,gE e=b:=⟨_,rfl⟩;simp only [e0,e1,e2] at HG h1 h2 hE;rw [HG.out];clear HG e0 e1 e2 rL rJ;generalize L.length=n1 at *;generalize J.length=n2 at *;obtain ⟨n3,hn3⟩:∃n,I.length=n:=⟨_,rfl⟩;have HN:Hid (I.length=n3):=hn3;rw [hn3] at nI;rw [hn3];clear hn3;unfold rkl;have hR:=heap_alloc_last w (.cells #[.int .i64 e,.slice aL n1 cL,.slice aJ n2 cJ,.slice aI n3 cI] 78);have hB:=below_alloc w (.cells #[.int .i64 e,.slice aL n1 cL,.slice aJ n2 cJ,.slice aI n3 cI] 78);go_enter Tryz.func100,Tryz.ntmps100;go_upto_region 1 with (fail)
 generalize w.alloc (.cells #[.int .i64 e,.slice aL n1 cL,.slice aJ n2 cJ,.slice aI n3 cI] 78)=w1 at *;obtain ⟨B,hBe⟩:∃B,w.heap.size=B:=⟨_,rfl⟩;rw [hBe] at hR ⊢;clear hBe;obtain ⟨c0,c1,c2,c3⟩:=c4 hR;have HB:Hid (Below w.heap.size w w1):=hB;clear hB;go_wp2_with fail
 refine (hE _).mono ?_;rintro q w2 ⟨rfl,rfl⟩
 cases b0 with
 | false=>
  go_wp2_with fail
  go_ret;exact ⟨rfl,HB.out⟩
 | true=>
  go_wp2_with fail
  refine (h1 _ HB.out).mono ?_;rintro q w2 ⟨rfl,hb2⟩;have hR2:=row_later hR hb2;have HB2:Hid (Below w.heap.size w w2):=Below.join HB.out hb2;clear c0 c1 c2 c3 hb2 hR HB h1;obtain ⟨c0,c1,c2,c3⟩:=c4 hR2
  cases b1 with
  | false=>
   go_wp2_with fail
   go_ret;exact ⟨rfl,HB2.out⟩
  | true=>
   go_wp2_with fail
   refine (h2 _ HB2.out).mono ?_;rintro q w3 ⟨rfl,hb3⟩;have hR3:=row_later hR2 hb3;have HB3:Hid (Below w.heap.size w w3):=Below.join HB2.out hb3;clear c0 c1 c2 c3 hb3 hR2 HB2 h2;obtain ⟨c0,c1,c2,c3⟩:=c4 hR3
   cases b2 with
   | false=>
    go_wp2_with fail
    go_ret;exact ⟨rfl,HB3.out⟩
   | true=>
    by_cases h15:n3≤1536
    ·have d1:decide ((1536:Int)<(n3:Int))=false:=by simp;omega
     have d2:¬(1536:Int)<(n3:Int):=by omega
     have HF:Hid ((true&&(true&&(true&&(decide (n3≤1536)&&I.all gI))))=I.all gI):=by unfold Hid;rw [decide_eq_true h15];rfl
     go_wp2_with fail
     go_loopw [30] (fun i wx=>∃k:Nat,k≤n3∧i=.int .i64 (k:Int)∧(∀x∈I.take k,gI x=true)∧Below w.heap.size w wx) (fun i _=>n3 - (intOf i).toNat)
     case atStart=>exact ⟨0,by omega,rfl,by simp,HB3.out⟩
     case round=>
      obtain ⟨k,hk,rfl,hA,hb⟩:=hrel;have HA:Hid (∀x∈I.take k,gI x=true):=hA;have HBr:Hid (Below w.heap.size w wr):=hb;clear hA hb c0 c1 c2 c3;by_cases hkn:k<n3
      ·have hkl:k<I.length:=by rw [HN.out];exact hkn
       obtain ⟨b,o,rfl,hr⟩:=rI k hkl;have hr:=ra_later hr HBr.out;unfold itl at hr;have i1:(0:Int)≤(k:Int):=by omega
       have i2:(k:Int)<(n3:Int):=by omega
       have HNO:Hid (gI I[k]=false→I.all gI=false):=fun h=>all_no hkl h
       have HYE:Hid (gI I[k]=true→∀x∈I.take (k+1),gI x=true):=fun h=>all_nx hkl HA.out h
       generalize I[k]=p at *;obtain ⟨⟨v,u⟩,bx⟩:=p;dsimp only at hr;clear hkl;by_cases v0:0≤v
       ·by_cases v1:v<21
        ·have HGI:Hid (gI ((v,u),bx)=(dpr v u&&gB bx)):=gI_yes1 v0 v1;have v0':¬v<0:=by omega
         have v1':¬21≤v:=by omega
         by_cases huv:u=v
         ·subst huv;have HX:Hid (I.all gI=false):=HNO.out (by rw [HGI.out];unfold dpr;simp);have d3:(u==u)=true:=by simp
          go_wp2_with (refine ldM hr Tryz.underlying121 rfl szItem _ rfl rfl rfl ?_)
          go_ret;exact ⟨ret_bool (by first | (rw [HF.out,HX.out]) | exact HX.out.symm | (rw [HX.out])),Below.plus HBr.out _⟩
         ·have d3:(u==v)=false:=by simp [huv]
          have d4:decide (u=v)=false:=by simp [huv]
          have hbl:=Sh.rBelow_any v u;have HDP:Hid (dpr v u=belB v u):=by unfold Hid dpr;rw [decide_eq_true huv,Bool.and_true]
          cases hq:belB v u with
          | false=>
           rw [hq] at hbl;have HX:Hid (I.all gI=false):=HNO.out (by rw [HGI.out,HDP.out,hq];rfl);clear hq;go_wp2_with (first | (refine ldM hr Tryz.underlying121 rfl szItem _ rfl rfl rfl ?_) | (go_at_call 147;refine (hbl _).mono ?_;rintro r w' ⟨rfl,rfl⟩))
           go_ret;exact ⟨ret_bool (by first | (rw [HF.out,HX.out]) | exact HX.out.symm | (rw [HX.out])),Below.plus HBr.out _⟩
          | true=>
           rw [hq] at hbl;have HG2:Hid (gI ((v,u),bx)=gB bx):=by unfold Hid;rw [HGI.out,HDP.out,hq];rfl
           have hgb:=rGoodBox_any bx;clear hq
           cases hgx:gB bx with
           | false=>
            rw [hgx] at hgb;have HX:Hid (I.all gI=false):=HNO.out (by rw [HG2.out,hgx]);clear hgx;go_wp2_with (first | (refine ldM hr Tryz.underlying121 rfl szItem _ rfl rfl rfl ?_) | (go_at_call 147;refine (hbl _).mono ?_;rintro r w' ⟨rfl,rfl⟩))
            refine (hgb _).mono ?_;rintro q w5 ⟨rfl,hb5⟩;have HB5:Hid (Below w.heap.size w w5):=Below.join (Below.plus HBr.out _) hb5;clear hb5 hgb;go_wp2_with fail
            go_ret;exact ⟨ret_bool (by first | (rw [HF.out,HX.out]) | exact HX.out.symm | (rw [HX.out])),HB5.out⟩
           | true=>
            rw [hgx] at hgb;have HX:Hid (∀x∈I.take (k+1),gI x=true):=HYE.out (by rw [HG2.out,hgx]);clear hgx;go_wp2_with (first | (refine ldM hr Tryz.underlying121 rfl szItem _ rfl rfl rfl ?_) | (go_at_call 147;refine (hbl _).mono ?_;rintro r w' ⟨rfl,rfl⟩))
            refine (hgb _).mono ?_;rintro q w5 ⟨rfl,hb5⟩;have HB5:Hid (Below w.heap.size w w5):=Below.join (Below.plus HBr.out _) hb5;clear hb5 hgb;go_wp2_with fail
            go_roundw
            case rel=>exact ⟨k+1,by omega,by go_num,HX.out,HB5.out⟩
            case measure=>simp [intOf];omega
        ·have HX:Hid (I.all gI=false):=HNO.out (gI_no1 (by dsimp only;omega));have v0':¬v<0:=by omega
         have v1':21≤v:=by omega
         go_wp2_with (refine ldM hr Tryz.underlying121 rfl szItem _ rfl rfl rfl ?_)
         go_ret;exact ⟨ret_bool (by first | (rw [HF.out,HX.out]) | exact HX.out.symm | (rw [HX.out])),Below.plus HBr.out _⟩
       ·have HX:Hid (I.all gI=false):=HNO.out (gI_no1 (by dsimp only;omega));have v0':v<0:=by omega
        go_wp2_with (refine ldM hr Tryz.underlying121 rfl szItem _ rfl rfl rfl ?_)
        go_ret;exact ⟨ret_bool (by first | (rw [HF.out,HX.out]) | exact HX.out.symm | (rw [HX.out])),Below.plus HBr.out _⟩
      ·have hkn':decide ((k:Int)<(n3:Int))=false:=by simp;omega
       have HX:Hid (I.all gI=true):=all_yes (by rw [HN.out];have:k=n3:=(by omega);rw [←this];exact HA.out);go_wp2_with fail
       go_ret;exact ⟨ret_bool (by first | (rw [HF.out,HX.out]) | exact HX.out.symm | (rw [HX.out])),HBr.out⟩
    ·have d1:(1536:Int)<(n3:Int):=by omega
     have HF:Hid ((true&&(true&&(true&&(decide (n3≤1536)&&I.all gI))))=false):=by unfold Hid;rw [decide_eq_false h15];rfl
     go_wp2_with fail
     go_ret;exact ⟨ret_bool HF.out.symm,HB3.out⟩
set_option maxHeartbeats 2000000 in
theorem rGood_1 (m:Msg) (aL aJ aI:Option Addr) (cL cJ cI:Nat) (w:World) (hr:MR w m aL aJ aI) (hkd:m.kd=1):
  Calls Tryz.prog 58 #[.agg (mgv m aL aJ aI cL cJ cI).toArray] w fun e w'=>e=.returned (.bool (gM m))∧Below w.heap.size w w':=by
 unfold mgv;have hsm:=fun W (hb:Below w.heap.size w W)=>sameR_any m.rk zR aL aJ aI none none none cL cJ cI 0 0 0 W (hr.l.later hb) (hr.j.later hb) (hr.i.later hb) (RdV.nil _ _ _ _) (RdV.nil _ _ _ _) (RdV.nil _ _ _ _) hr.nl hr.nj hr.ni (by show (0:Nat)<_;decide) (by show (0:Nat)<_;decide) (by show (0:Nat)<_;decide)
 have HR:Hid (MR w m aL aJ aI):=hr;clear hr;have eq1:=fun W=>run_eqPr 83 (w:=W) 9998 m.rq zQ (.inr (.inr rfl))
 have eq2:=fun W=>run_eqRp (w:=W) 9995 m.rp zP
 have eq3:=fun W=>run_eqSd (w:=W) 9997 m.sd zD
 have hM:MgAt (w.alloc (.cells (mgl m (.slice aL m.rk.2.1.length cL) (.slice aJ m.rk.2.2.1.length cJ) (.slice aI m.rk.2.2.2.length cI)).toArray 92)) w.heap.size m (.slice aL m.rk.2.1.length cL) (.slice aJ m.rk.2.2.1.length cJ) (.slice aI m.rk.2.2.2.length cI):=heap_alloc_last w _;have hB:=below_alloc w (.cells (mgl m (.slice aL m.rk.2.1.length cL) (.slice aJ m.rk.2.2.1.length cJ) (.slice aI m.rk.2.2.2.length cI)).toArray 92);obtain ⟨nL,hnL⟩:∃n,m.rk.2.1.length=n:=⟨_,rfl⟩;obtain ⟨nJ,hnJ⟩:∃n,m.rk.2.2.1.length=n:=⟨_,rfl⟩;obtain ⟨nI,hnI⟩:∃n,m.rk.2.2.2.length=n:=⟨_,rfl⟩;have HEQ:Hid (m.rk.2.1.length=nL∧m.rk.2.2.1.length=nJ∧m.rk.2.2.2.length=nI):=⟨hnL,hnJ,hnI⟩;simp only [hnL,hnJ,hnI] at hsm hM hB;rw [hnL,hnJ,hnI];clear hnL hnJ hnI;obtain ⟨ct,hct⟩:∃c,(mgl m (.slice aL nL cL) (.slice aJ nJ cJ) (.slice aI nI cI)).toArray=c:=⟨_,rfl⟩;rw [hct] at hB;rw [hct];have HM:Hid (MgAt (w.alloc (.cells ct 92)) w.heap.size m (.slice aL nL cL) (.slice aJ nJ cJ) (.slice aI nI cI)):=by have h:=hM;rw [hct] at h;exact h
 clear hM hct;obtain ⟨nr,hnr⟩:∃b,nR m.rk=b:=⟨_,rfl⟩;have HNR:Hid (nR m.rk=nr):=hnr;have HG:Hid (gM m=(gR m.rk&&(decide (m.rq=zQ)&&(decide (m.rp=zP)&&decide (m.sd=zD))))):=by unfold Hid gM;rw [if_pos hkd]
 have hP:=fun W (hb:Below w.heap.size w W)=>rRekey_any m.rk aL aJ aI cL cJ cI W (HR.out.l.later hb) (HR.out.j.later hb) (HR.out.i.later hb) HR.out.nl HR.out.nj HR.out.ni
 simp only [HEQ.out.1,HEQ.out.2.1,HEQ.out.2.2] at hP;generalize decide (m.rq=zQ)=g1 at *;generalize decide (m.rp=zP)=g2 at *;generalize decide (m.sd=zD)=g3 at *;generalize gR m.rk=g0 at *;rw [HG.out];clear HG;clear hnr;go_enter Tryz.func58,Tryz.ntmps58;go_upto_region 1 with (fail)
 generalize w.alloc (.cells ct 92)=w1 at *;obtain ⟨B,hBe⟩:∃B,w.heap.size=B:=⟨_,rfl⟩;rw [hBe] at HM ⊢;clear hBe;have HB:Hid (Below w.heap.size w w1):=hB;clear hB;have HK:Hid (w1.rangeAt B 1 (rkl m.rk.1 (.slice aL nL cL) (.slice aJ nJ cJ) (.slice aI nI cI))):=HM.out.rk;have hsm:=hsm w1 HB.out;go_wp2_with (refine ldM HK.out Tryz.underlying78 rfl szRk _ rfl rfl rfl ?_)
 refine hsm.mono ?_;rintro q w2 ⟨⟨bn,rfl,hbn⟩,hb2⟩
 obtain rfl:bn=nr:=by
  have h2:nR m.rk=true↔m.rk=zR:=nR_iff;rw [Bool.eq_iff_iff,hbn,←HNR.out,h2]
 have HM2:Hid (MgAt w2 B m (.slice aL nL cL) (.slice aJ nJ cJ) (.slice aI nI cI)):=HM.out.later hb2;have HB2:Hid (Below w.heap.size w w2):=Below.join HB.out hb2;clear hsm hb2 HM HB HK hbn;have ck:=HM2.out.kind;rw [hkd] at ck;clear hkd;have H1:Hid (w2.rangeAt B 5 (stl m.rq)):=HM2.out.rq;have H2:Hid (w2.rangeAt B 7 (rpl m.rp)):=HM2.out.rp;have H3:Hid (w2.rangeAt B 22 (sdl m.sd)):=HM2.out.sd;have EQ1:Hid _:=eq1;have EQ2:Hid _:=eq2;have EQ3:Hid _:=eq3;clear eq1 eq2 eq3;have eq1:=EQ1.out w2;have eq2:=EQ2.out w2;have eq3:=EQ3.out w2;have HK:Hid (w2.rangeAt B 1 (rkl m.rk.1 (.slice aL nL cL) (.slice aJ nJ cJ) (.slice aI nI cI))):=HM2.out.rk;have hP:=hP w2 HB2.out;go_wp2_with (first | (refine ldM HK.out Tryz.underlying78 rfl szRk _ rfl rfl rfl ?_) | (refine ldM H1.out Tryz.underlying83 rfl szRq _ rfl rfl rfl ?_) | (refine eqX eq1 Tryz.eqGuardType83 _ _ rfl rfl rfl rfl ?_) | (refine ldM H2.out Tryz.underlying88 rfl szRp _ rfl rfl rfl ?_) | (refine eqX eq2 Tryz.eqGuardType88 _ _ rfl rfl rfl rfl ?_) | (refine ldM H3.out Tryz.underlying90 rfl szSd _ rfl rfl rfl ?_) | (refine eqX eq3 Tryz.eqGuardType90 _ _ rfl rfl rfl rfl ?_))
 refine hP.mono ?_;rintro q w3 ⟨rfl,hb3⟩;have hM3:=HM2.out.later hb3;have HB3:Hid (Below w.heap.size w w3):=Below.join HB2.out hb3;clear H1 H2 H3 eq1 eq2 eq3 HK hP hb3 HM2;have H1:Hid (w3.rangeAt B 5 (stl m.rq)):=hM3.rq;have H2:Hid (w3.rangeAt B 7 (rpl m.rp)):=hM3.rp;have H3:Hid (w3.rangeAt B 22 (sdl m.sd)):=hM3.sd;have eq1:=EQ1.out w3;have eq2:=EQ2.out w3;have eq3:=EQ3.out w3;clear hM3
 cases g0 with
 | false=>
  go_wp2_with fail
  go_ret;exact ⟨rfl,HB3.out⟩
 | true=>
  cases g1 with
  | false=>
   go_wp2_with (first | (refine ldM H1.out Tryz.underlying83 rfl szRq _ rfl rfl rfl ?_) | (refine eqX eq1 Tryz.eqGuardType83 _ _ rfl rfl rfl rfl ?_) | (refine ldM H2.out Tryz.underlying88 rfl szRp _ rfl rfl rfl ?_) | (refine eqX eq2 Tryz.eqGuardType88 _ _ rfl rfl rfl rfl ?_) | (refine ldM H3.out Tryz.underlying90 rfl szSd _ rfl rfl rfl ?_) | (refine eqX eq3 Tryz.eqGuardType90 _ _ rfl rfl rfl rfl ?_))
   go_ret;exact ⟨rfl,HB3.out⟩
  | true=>
   cases g2 with
   | false=>
    go_wp2_with (first | (refine ldM H1.out Tryz.underlying83 rfl szRq _ rfl rfl rfl ?_) | (refine eqX eq1 Tryz.eqGuardType83 _ _ rfl rfl rfl rfl ?_) | (refine ldM H2.out Tryz.underlying88 rfl szRp _ rfl rfl rfl ?_) | (refine eqX eq2 Tryz.eqGuardType88 _ _ rfl rfl rfl rfl ?_) | (refine ldM H3.out Tryz.underlying90 rfl szSd _ rfl rfl rfl ?_) | (refine eqX eq3 Tryz.eqGuardType90 _ _ rfl rfl rfl rfl ?_))
    go_ret;exact ⟨rfl,HB3.out⟩
   | true=>
    go_wp2_with (first | (refine ldM H1.out Tryz.underlying83 rfl szRq _ rfl rfl rfl ?_) | (refine eqX eq1 Tryz.eqGuardType83 _ _ rfl rfl rfl rfl ?_) | (refine ldM H2.out Tryz.underlying88 rfl szRp _ rfl rfl rfl ?_) | (refine eqX eq2 Tryz.eqGuardType88 _ _ rfl rfl rfl rfl ?_) | (refine ldM H3.out Tryz.underlying90 rfl szSd _ rfl rfl rfl ?_) | (refine eqX eq3 Tryz.eqGuardType90 _ _ rfl rfl rfl rfl ?_))
    go_ret;exact ⟨by cases g3 <;> rfl,HB3.out⟩
open Bt (Kept tb bys RdF pkS pkE)
/- Fields as cells. -/
def fcs (x:Nat×Int):List Value:=[.int .u64 (x.1:Int),.int .i64 x.2]
def fsl (l:List (Nat×Int)):List Value:=l.flatMap fcs
theorem fsl_snoc (l:List (Nat×Int)) (x:Nat×Int):fsl (l++[x])=fsl l++fcs x:=by simp [fsl]
theorem fsl_get:∀(l:List (Nat×Int)) (i:Nat),i<l.length→(fsl l)[i * 2]? =some (.int .u64 ((l.getD i (0,0)).1:Int))∧(fsl l)[i * 2+1]? =some (.int .i64 (l.getD i (0,0)).2)
 | [],i,h=>by cases h
 | x::l,i,hi=>by
  have e:fsl (x::l)=.int .u64 (x.1:Int):: .int .i64 x.2::fsl l:=rfl;rw [e]
  cases i with
  | zero=>exact ⟨rfl,rfl⟩
  | succ i=>
   have:=fsl_get l i (by simpa using hi);rw [show (i+1) * 2=i * 2+1+1 by omega,show i * 2+1+1+1=(i * 2+1)+1+1 by omega]
   simpa using this
theorem infoF:(Tryz.prog.info? 162).map (fun i=>(i.zero,i.size,i.bytes))=some (some (.agg #[.int .u64 0,.int .i64 0]),2,16):=by kernel_rfl
theorem infoF_parts:∃i,Tryz.prog.info? 162=some i∧i.zero=some (.agg #[.int .u64 0,.int .i64 0])∧i.size=2∧i.bytes=16:=by
 have h:=infoF
 cases hq:Tryz.prog.info? 162 with
 | none=>rw [hq] at h;cases h
 | some i=>
  rw [hq] at h;simp at h;exact ⟨i,rfl,h.1,h.2.1,h.2.2⟩
theorem getD_memF {l:List (Nat×Int)} {k:Nat} (h:k<l.length):l.getD k (0,0)∈l:=by
 simp [List.getD,h]
theorem rdF_of {W:World} {n0:Nat} {a:Option Addr} {cap:Nat} {l:List (Nat×Int)} (h:W.ownsRow n0 162 2 (.slice a l.length cap) l.length (fsl l)) (hl:∀x∈l,x.1<18446744073709551616):RdF W a l:=by
 rcases h.2 with ⟨e,h0⟩ | ⟨g,cap',cur,e,h3,h4,h5,h6,h7,h8⟩
 ·intro i hi;omega
 ·cases e
  intro i hi;obtain ⟨p0,p1⟩:=fsl_get l i hi
  have cell:∀j v,j<l.length * 2→(fsl l)[j]? =some v→W.cell? ⟨g,j,none⟩=some v:=fun j v hj hv=>by
   rw [cell_of_row W g j _ _ _ h4,←hv,←h8,List.getElem?_take_of_lt hj];simp
  refine ⟨g,0,rfl,?_,?_,hl _ (getD_memF hi)⟩
  ·rw [Nat.zero_add];exact cell _ _ (by omega) p0
  ·rw [Nat.zero_add];exact cell _ _ (by omega) p1
/- A list of fields that has grown. -/
structure GR (w w':World) (v v':Value) (l:List (Nat×Int)):Prop where
 row:w'.ownsRow 0 162 2 v' l.length (fsl l)
 kp:Kept (fun k=>v.ownBlock=some k) w w'
 own:∀k,v'.ownBlock=some k→v.ownBlock=some k∨w.heap.size≤k
section
variable {a b c:World} {v v' v'':Value} {l l':List (Nat×Int)}
theorem GR.refl (h:a.ownsRow 0 162 2 v l.length (fsl l)):GR a a v v l:=⟨h,Kept.refl _ _,fun k hk=>.inl hk⟩
theorem GR.trans (h:GR a b v v' l) (h':GR b c v' v'' l'):GR a c v v'' l':=
 ⟨h'.row,h.kp.trans h'.kp (fun i hi hf=>(h.own i hf).resolve_right (by omega)),fun k hk=>(h'.own k hk).elim (h.own k) (fun hge=>.inr (Nat.le_trans h.kp.size hge))⟩
theorem GR.ahead (hb:Below a.heap.size a b) (h:GR b c v v' l):GR a c v v' l:=
 ⟨h.row,(Kept.ofBelow hb).trans h.kp (fun i hi hf=>hf),fun k hk=>(h.own k hk).imp id (Nat.le_trans hb.size)⟩
theorem GR.later (h:GR a b v v' l) (hb:Below b.heap.size b c):GR a c v v' l:=
 ⟨owns_later h.row hb,h.kp.trans (Kept.ofBelow (F:=fun _=>False) hb) (fun i hi hf=>hf.elim),h.own⟩
theorem GR.block (h:GR a b v v' l) {E:Nat} (hE:E<a.heap.size) (hn:v.ownBlock≠some E):b.heap[E]? =a.heap[E]? :=h.kp.block E hE hn
theorem GR.ne (h:GR a b v v' l) {E:Nat} (hE:E<a.heap.size) (hn:v.ownBlock≠some E):v'.ownBlock≠some E:=fun he=>by
 rcases h.own E he with h1 | h1
 ·exact hn h1
 ·omega
theorem GR.below (h:GR a b (.slice none 0 0) v' l):Below a.heap.size a b:=h.kp.below (Nat.le_refl _) (fun k hk=>by cases hk)
end
theorem wrap_u64 (v:Int) (h0:0≤v) (h:v<4611686018427387904):IntKind.u64.wrap v=v:=by rw [IntKind.wrap_u64];omega
set_option maxRecDepth 100000 in
set_option maxHeartbeats 1000000 in
theorem rPut_any (x q:Int) (h0:0≤x) (h1:x<4611686018427387904) {w:World} {v:Value} {l:List (Nat×Int)} (hr:w.ownsRow 0 162 2 v l.length (fsl l)) (hl:l.length≤20000):
  Calls Tryz.prog 59 #[v,.int .i64 x,.int .i64 q] w fun e w'=>∃v',e=.returned v'∧GR w w' v v' (l++[(x.toNat,q)]):=by
 obtain ⟨i0,hi,hz0,hz1,hz2⟩:=infoF_parts;have hwr:=wrap_u64 x h0 h1;obtain ⟨a1,cap1,rfl⟩:=owns_slice hr;have HR:Hid _:=hr;have HX:Hid (0≤x):=h0;clear h0 h1;go_enter Tryz.func59,Tryz.ntmps59;go_wp2_with (at_builtin;(refine wpList_append_lies _ rfl _ _ 153 rfl 0 162 i0 (.agg #[.int .u64 0,.int .i64 0]) 2 16 Tryz.underlying153 hi hz0 hz1 hz2 rfl (by decide) (.slice a1 l.length cap1) l.length (fsl l) rfl (hr.alloc _) ⟨w.heap.size,0,none⟩ 1 1 [.int .u64 x,.int .i64 q] rfl rfl (cell_row_new _ _ _) (by simp [Value.oneCell']) (by omega) (by unfold maxLen;omega) (by omega) (by omega) (w.heap.size+1) (by simp) ?_);intro g cap w3 hown hgr hat hlt;have HO:Hid (w3.ownsRow 0 162 2 (.slice (some ⟨g,0,none⟩) (l.length+1) cap) (l.length+1) (fsl l++[.int .u64 x,.int .i64 q])):=hown;have HG:Hid ((w.alloc (.cells #[.int .u64 x,.int .i64 q] 162)).grownBy w3 (Value.slice a1 l.length cap1).ownBlock):=hgr;have HA:Hid ((Value.slice a1 l.length cap1).ownBlock=some g∨g=w.heap.size+1):=hat;clear hown hgr hat hlt)
 go_ret;have e:(l++[(x.toNat,q)]).length=l.length+1:=by simp
 have e2:fsl (l++[(x.toNat,q)])=fsl l++[.int .u64 x,.int .i64 q]:=by
  rw [fsl_snoc];unfold fcs;dsimp only;rw [Int.toNat_of_nonneg HX.out]
 refine ⟨.slice (some ⟨g,0,none⟩) (l.length+1) cap,rfl,?_,?_,?_⟩
 ·rw [e,e2];exact HO.out
 ·have hg:=HG.out;refine ⟨hg.os,hg.tape,hg.output,by have:=hg.size;simp at this;omega,fun k hk hn=>?_⟩;rw [hg.block k (by simp;omega) (fun h=>hn h.symm)];exact (below_alloc w _).block k hk
 ·intro k hk;have hk':g=k:=by simpa [Value.ownBlock] using hk
  subst hk';rcases HA.out with h | h
  ·exact .inl h
  ·exact .inr (by omega)
/- Numbers that can be written. -/
def nn (x:Int):Prop:=0≤x∧x<4611686018427387904
theorem own_ne {w:World} {n0 T k n:Nat} {v:Value} {xs:List Value} (h:w.ownsRow n0 T k v n xs):v.ownBlock≠some w.heap.size:=fun e=>by
 have:=(h.lt _ e).2;omega
theorem two_cells {W:World} {E:Nat} {x y:Value} {T:TypeId} (h:W.heap[E]? =some (.cells #[x,y] T (0,0))):W.cell? ⟨E,0,none⟩=some x∧W.cell? ⟨E,1,none⟩=some y:=⟨cell_of_row W E 0 _ _ _ h,cell_of_row W E 1 _ _ _ h⟩
set_option maxRecDepth 100000 in
set_option maxHeartbeats 1000000 in
theorem rPutK_any (kb ks:Int) (hb:nn kb) (hs:nn ks) {w:World} {v:Value} {l:List (Nat×Int)} (hr:w.ownsRow 0 162 2 v l.length (fsl l)) (hl:l.length≤19900):
  Calls Tryz.prog 62 #[v,.agg #[.int .i64 kb,.int .i64 ks]] w fun e w'=>∃v',e=.returned v'∧GR w w' v v' (l++fK (kb,ks)):=by
 have hE:=heap_alloc_last w (.cells #[.int .i64 kb,.int .i64 ks] 46);have hB1:=below_alloc w (.cells #[.int .i64 kb,.int .i64 ks] 46);have HR1:Hid _:=owns_later hr hB1;have HEl:Hid (w.heap.size<(w.alloc (.cells #[.int .i64 kb,.int .i64 ks] 46)).heap.size∧v.ownBlock≠some w.heap.size):=⟨by simp,own_ne hr⟩;have HB1:Hid _:=hB1;clear hB1 hr;go_enter Tryz.func62,Tryz.ntmps62;go_upto_region 1 with (fail)
 generalize w.alloc (.cells #[.int .i64 kb,.int .i64 ks] 46)=w1 at *;obtain ⟨E,hEe⟩:∃E,w.heap.size=E:=⟨_,rfl⟩;rw [hEe] at hE HEl ⊢;clear hEe;have hE:w1.drew.heap[E]? =some (.cells #[.int .i64 kb,.int .i64 ks] 46 (0,0)):=hE;have hp1:=rPut_any kb 16 hb.1 hb.2 (w:=w1.drew) (v:=v) (l:=l) HR1.out (by omega);have HS:Hid (nn ks):=hs;have HL:Hid (l.length≤19900):=hl;clear hb hs hl;refine wp_region_held_drew (S:=fun W=>W.cell? ⟨E,0,none⟩=some (.int .i64 kb)∧W.cell? ⟨E,1,none⟩=some (.int .i64 ks)) (by kernel_rfl) (two_cells hE) (fun hHeld=>?_);refine opX 0 (v) rfl ?_;go_frame;refine opX 1 (.pointer (some ⟨E,0,none⟩)) rfl ?_;go_frame;refine opX 2 (.int .i64 kb) rfl ?_;go_frame;refine opX 4 (.pointer (some ⟨E,1,none⟩)) rfl ?_;go_frame;refine opX 5 (.int .i64 ks) rfl ?_;go_frame;refine rdy 3 rfl fun K hK=>?_;go_simp
 refine hp1.mono ?_;rintro e w2 ⟨v2,rfl,g2⟩;have hE2:=(g2.block HEl.out.1 HEl.out.2).trans hE;have hp2:=rPut_any ks 8 HS.out.1 HS.out.2 (w:=w2) (v:=v2) g2.row (by have:=HL.out;simp;omega);have HG2:Hid (GR w1.drew w2 v v2 (l++[(kb.toNat,16)])):=g2;have HE2:Hid (w2.heap[E]? =some (.cells #[.int .i64 kb,.int .i64 ks] 46 (0,0))):=hE2;have HN2:Hid (v2.ownBlock≠some E∧E<w2.heap.size):=⟨g2.ne HEl.out.1 HEl.out.2,Nat.lt_of_lt_of_le HEl.out.1 g2.kp.size⟩;clear hp1 g2 hE2;go_wp2_with fail
 refine hK.out _ _ (two_cells HE2.out) (fun hHeld2=>?_);clear hHeld;clear hK K;try go_frame
 refine rdy 6 rfl fun K hK=>?_;go_simp
 refine hp2.mono ?_;rintro e w3 ⟨v3,rfl,g3⟩;have hE3:=(g3.block HN2.out.2 HN2.out.1).trans HE2.out;have HG3:Hid (GR w1.drew w3 v v3 (l++[(kb.toNat,16)]++[(ks.toNat,8)])):=HG2.out.trans g3;clear hp2 g3;go_wp2_with fail
 refine hK.out _ _ (two_cells hE3) (fun hHeld3=>?_);clear hHeld2 hE3;clear hK K;try go_frame
 refine opX 7 (v3) rfl ?_;go_frame;refine wpAnyH_done (by kernel_rfl) ?_ _;go_wp2_with fail
 go_ret;refine ⟨v3,rfl,?_⟩;have e:l++fK (kb,ks)=l++[(kb.toNat,16)]++[(ks.toNat,8)]:=by simp [fK]
 rw [e];exact GR.ahead (HB1.out.trans ((drew_below w1).mono HB1.out.size)) HG3.out
theorem four_cells {W:World} {E:Nat} {x y z u:Value} {T:TypeId} (h:W.heap[E]? =some (.cells #[x,y,z,u] T (0,0))):W.cell? ⟨E,0,none⟩=some x∧W.cell? ⟨E,1,none⟩=some y∧W.cell? ⟨E,2,none⟩=some z∧W.cell? ⟨E,3,none⟩=some u:=⟨cell_of_row W E 0 _ _ _ h,cell_of_row W E 1 _ _ _ h,cell_of_row W E 2 _ _ _ h,cell_of_row W E 3 _ _ _ h⟩
set_option maxRecDepth 100000 in
set_option maxHeartbeats 1000000 in
theorem rPutB_any (kb ks lb ls:Int) (hb:nn kb∧nn ks) (hs:nn lb∧nn ls) {w:World} {v:Value} {l:List (Nat×Int)} (hr:w.ownsRow 0 162 2 v l.length (fsl l)) (hl:l.length≤19800):
  Calls Tryz.prog 61 #[v,.agg #[.int .i64 kb,.int .i64 ks,.int .i64 lb,.int .i64 ls]] w fun e w'=>∃v',e=.returned v'∧GR w w' v v' (l++fB ((kb,ks),(lb,ls))):=by
 have hE:=heap_alloc_last w (.cells #[.int .i64 kb,.int .i64 ks,.int .i64 lb,.int .i64 ls] 85);have hB1:=below_alloc w (.cells #[.int .i64 kb,.int .i64 ks,.int .i64 lb,.int .i64 ls] 85);have HR1:Hid _:=owns_later hr hB1;have HEl:Hid (w.heap.size<(w.alloc (.cells #[.int .i64 kb,.int .i64 ks,.int .i64 lb,.int .i64 ls] 85)).heap.size∧v.ownBlock≠some w.heap.size):=⟨by simp,own_ne hr⟩;have HB1:Hid _:=hB1;clear hB1 hr;go_enter Tryz.func61,Tryz.ntmps61;go_upto_region 1 with (fail)
 generalize w.alloc (.cells #[.int .i64 kb,.int .i64 ks,.int .i64 lb,.int .i64 ls] 85)=w1 at *;obtain ⟨E,hEe⟩:∃E,w.heap.size=E:=⟨_,rfl⟩;rw [hEe] at hE HEl ⊢;clear hEe;have hE:w1.drew.heap[E]? =some (.cells #[.int .i64 kb,.int .i64 ks,.int .i64 lb,.int .i64 ls] 85 (0,0)):=hE;have hp1:=rPutK_any kb ks hb.1 hb.2 (w:=w1.drew) (v:=v) (l:=l) HR1.out (by omega);have HS:Hid (nn lb∧nn ls):=hs;have HL:Hid (l.length≤19800):=hl;clear hb hs hl;refine wp_region_held_drew (S:=fun W=>W.cell? ⟨E,0,none⟩=some (.int .i64 kb)∧W.cell? ⟨E,1,none⟩=some (.int .i64 ks)∧W.cell? ⟨E,2,none⟩=some (.int .i64 lb)∧W.cell? ⟨E,3,none⟩=some (.int .i64 ls)) (by kernel_rfl) (four_cells hE) (fun hHeld=>?_);refine opX 0 (v) rfl ?_;go_frame;refine opX 1 (.pointer (some ⟨E,0,none⟩)) rfl ?_;go_frame;refine opX 2 (.agg #[.int .i64 kb,.int .i64 ks]) rfl ?_;go_frame;refine opX 4 (.pointer (some ⟨E,2,none⟩)) rfl ?_;go_frame;refine opX 5 (.agg #[.int .i64 lb,.int .i64 ls]) rfl ?_;go_frame;refine rdy 3 rfl fun K hK=>?_;go_simp
 refine hp1.mono ?_;rintro e w2 ⟨v2,rfl,g2⟩;have hE2:=(g2.block HEl.out.1 HEl.out.2).trans hE;have hp2:=rPutK_any lb ls HS.out.1 HS.out.2 (w:=w2) (v:=v2) g2.row (by have:=HL.out;simp [fK];omega);have HG2:Hid (GR w1.drew w2 v v2 (l++fK (kb,ks))):=g2;have HE2:Hid (w2.heap[E]? =some (.cells #[.int .i64 kb,.int .i64 ks,.int .i64 lb,.int .i64 ls] 85 (0,0))):=hE2;have HN2:Hid (v2.ownBlock≠some E∧E<w2.heap.size):=⟨g2.ne HEl.out.1 HEl.out.2,Nat.lt_of_lt_of_le HEl.out.1 g2.kp.size⟩;clear hp1 g2 hE2;go_wp2_with fail
 refine hK.out _ _ (four_cells HE2.out) (fun hHeld2=>?_);clear hHeld;clear hK K;try go_frame
 refine rdy 6 rfl fun K hK=>?_;go_simp
 refine hp2.mono ?_;rintro e w3 ⟨v3,rfl,g3⟩;have hE3:=(g3.block HN2.out.2 HN2.out.1).trans HE2.out;have HG3:Hid (GR w1.drew w3 v v3 (l++fK (kb,ks)++fK (lb,ls))):=HG2.out.trans g3;clear hp2 g3;go_wp2_with fail
 refine hK.out _ _ (four_cells hE3) (fun hHeld3=>?_);clear hHeld2 hE3;clear hK K;try go_frame
 refine opX 7 (v3) rfl ?_;go_frame;refine wpAnyH_done (by kernel_rfl) ?_ _;go_wp2_with fail
 go_ret;refine ⟨v3,rfl,?_⟩;have e:l++fB ((kb,ks),(lb,ls))=l++fK (kb,ks)++fK (lb,ls):=by simp [fB]
 rw [e];exact GR.ahead (HB1.out.trans ((drew_below w1).mono HB1.out.size)) HG3.out
end Go.Proofs.YtoimkngkcliinaaGreatDoor.Wi
