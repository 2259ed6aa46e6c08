/- TrC, TrD, TrE, TrF, TrL, TrMp, TrH, joined. -/
import Derived.Test.YtanaapfobpgibaaGreatDoorJTrMath
import Derived.Test.YtanaapfobpgibaaGreatDoorJRtB
open Go.Proofs.Tryz
set_option maxHeartbeats 2000000
namespace Go.Proofs.YtanaapfobpgibaaGreatDoor
open Go.RowKit
open Rt (Ky zK bF bq cK eH tj)
open Rs (En zE aU bg jW lW oA)
set_option linter.unusedVariables false
set_option linter.unusedSimpArgs false
variable {t:Tr}
theorem qW {r:Nat→En} (h:lW r=true):oA r=0:=by unfold oA;rw [h];rfl
theorem qX {r:Nat→En} (h:lW r=false):oA r=31:=by unfold oA;rw [h];rfl
theorem sU (h:uq t=false):gu t=false:=by unfold gu;rw [h];rfl
theorem VO (h:eH t.ks=false):gu t=false:=by unfold gu;rw [h,Bool.false_and,Bool.and_false]
theorem VN (h:lW t.ro=false):gu t=false:=by unfold gu;rw [h,Bool.false_and,Bool.and_false,Bool.and_false]
theorem EY (h:sH t=false):gu t=false:=by unfold gu;rw [h,Bool.false_and,Bool.and_false,Bool.and_false,Bool.and_false]
theorem zV (h:qQ t=false):gu t=false:=by unfold gu;rw [h,Bool.and_false,Bool.and_false,Bool.and_false,Bool.and_false]
theorem MU (h1:uq t=true) (h2:eH t.ks=true) (h3:lW t.ro=true) (h4:sH t=true) (h5:qQ t=true):gu t=true:=by unfold gu;rw [h1,h2,h3,h4,h5];rfl
theorem WT (h:¬0≤t.ep):uq t=false:=by unfold uq;rw [decide_eq_false h];rfl
theorem WS (h:¬t.ep≤200):uq t=false:=by unfold uq;rw [decide_eq_false h,Bool.false_and,Bool.and_false]
theorem WR (h:¬22≤t.fr):uq t=false:=by unfold uq;rw [decide_eq_false h,Bool.false_and,Bool.and_false,Bool.and_false]
theorem WQ (h:¬t.fr≤32768):uq t=false:=by unfold uq;rw [decide_eq_false h,Bool.and_false,Bool.and_false,Bool.and_false]
theorem Ri (h1:0≤t.ep) (h2:t.ep≤200) (h3:22≤t.fr) (h4:t.fr≤32768):uq t=true:=by unfold uq;rw [decide_eq_true h1,decide_eq_true h2,decide_eq_true h3,decide_eq_true h4];rfl
set_option maxRecDepth 100000 in
theorem fH (t:Tr) (w:World):Calls prog 134 #[.agg (aC t)] w fun r w'=>r=.returned (.int .i64 (J8 t))∧Below w.heap.size w w':=by
 have hn:=az.new w t;have cA:=cG w t;have h1:=Rt.fH t.ks;have h2:=Rs.fH t.ro;have h3:=C5 t;have h4:=zX t;obtain ⟨ck,dH⟩:∃c,bF t.ks=c:=⟨_,rfl⟩;obtain ⟨cr,tH⟩:∃c,aU t.ro=c:=⟨_,rfl⟩;obtain ⟨ct,bQ⟩:∃c,aC t=c:=⟨_,rfl⟩;simp only [dH] at h1;simp only [tH] at h2;simp only [bQ] at h3 h4;have HK:Hid (bF t.ks=ck):=dH;have HR:Hid (aU t.ro=cr):=tH;have HT:Hid (aC t=ct):=bQ;clear dH tH bQ;go_enter func134,ntmps134;go_upto_region 1 with (fail)
 generalize w.alloc (.cells (aC t) 39)=w1 at *;rw [HT.out];obtain ⟨B,uj⟩:∃B,w.heap.size=B:=⟨_,rfl⟩;rw [uj] at hn ⊢;have VB:Hid (w.heap.size=B):=uj;clear uj;obtain ⟨c0,c1⟩:=hn.cells;have dV:Hid (Below w.heap.size w w1):=cA
 cases q1:decide (t.ep<0) with
 | true=>
  have BD:Hid (uq t=false):=WT (by have:=of_decide_eq_true q1;omega);generalize t.ep=ep at *;generalize t.fr=fr at *;go_wp2_with fail
  go_ret;exact ⟨aj (by rw [b8 (sU BD.out)]),dV.out⟩
 | false=>
  cases q2:decide (200<t.ep) with
  | true=>
   have BD:Hid (uq t=false):=WS (by have:=of_decide_eq_true q2;omega);generalize t.ep=ep at *;generalize t.fr=fr at *;go_wp2_with fail
   go_ret;exact ⟨aj (by rw [b8 (sU BD.out)]),dV.out⟩
  | false=>
   cases q3:decide (t.fr<22) with
   | true=>
    have BD:Hid (uq t=false):=WR (by have:=of_decide_eq_true q3;omega);generalize t.ep=ep at *;generalize t.fr=fr at *;go_wp2_with fail
    go_ret;exact ⟨aj (by rw [b8 (sU BD.out)]),dV.out⟩
   | false=>
    cases q4:decide (32768<t.fr) with
    | true=>
     have BD:Hid (uq t=false):=WQ (by have:=of_decide_eq_true q4;omega);generalize t.ep=ep at *;generalize t.fr=fr at *;go_wp2_with fail
     go_ret;exact ⟨aj (by rw [b8 (sU BD.out)]),dV.out⟩
    | false=>
     have BD:Hid (uq t=true):=Ri (by have:=of_decide_eq_false q1;omega) (by have:=of_decide_eq_false q2;omega) (by have:=of_decide_eq_false q3;omega) (by have:=of_decide_eq_false q4;omega);generalize t.ep=ep at *;generalize t.fr=fr at *;go_wp2_with (refine rdK hn HK.out _ rfl rfl rfl ?_)
     clear q1 q2 q3 q4 c0 c1;refine (h1 _).mono ?_;rintro r w2 ⟨rfl,hb2⟩;have uf:=hn.later hb2;have xO:=cA.trans (hb2.mono cA.size);clear h1 hn cA hb2 dV
     cases hk:eH t.ks with
     | false=>
      rw [Rt.fh hk];go_wp2_with fail
      go_ret;exact ⟨aj (by rw [b8 (VO hk)]),xO⟩
     | true=>
      rw [Rt.kT hk];go_wp2_with (refine ND uf HR.out _ rfl rfl rfl ?_)
      refine (h2 _).mono ?_;rintro r w3 ⟨rfl,hb3⟩;have Sl:=uf.later hb3;have uk:=xO.trans (hb3.mono xO.size);clear h2 uf xO hb3
      cases hr:lW t.ro with
      | false=>
       rw [qX hr];go_wp2_with fail
       go_ret;exact ⟨aj (by rw [b8 (VN hr)]),uk⟩
      | true=>
       rw [qW hr];go_wp2_with (refine pV Sl HT.out _ rfl rfl rfl ?_)
       refine (h3 _).mono ?_;rintro r w4 ⟨rfl,hb4⟩;have hn4:=Sl.later hb4;have Qd:=uk.trans (hb4.mono uk.size);clear h3 Sl uk hb4
       cases IW:sH t with
       | false=>
        go_wp2_with fail
        go_ret;exact ⟨aj (by rw [b8 (EY IW)]),Qd⟩
       | true=>
        go_wp2_with (refine pV hn4 HT.out _ rfl rfl rfl ?_)
        refine (h4 _).mono ?_;rintro r w5 ⟨rfl,dT⟩;have WH:=Qd.trans (dT.mono Qd.size);clear h4 hn4 Qd dT
        cases IU:qQ t with
        | false=>
         go_wp2_with fail
         go_ret;exact ⟨aj (by rw [b8 (zV IU)]),WH⟩
        | true=>
         go_wp2_with fail
         go_ret;exact ⟨aj (by rw [p_ (MU BD.out hk hr IW IU)]),WH⟩
set_option maxRecDepth 100000 in
theorem fy (t:Tr) (w:World):Calls prog 39 #[.agg (aC t)] w fun r w'=>r=.returned (.int .i64 (J8 t))∧Below w.heap.size w w':=by
 have hn:=az.new w t;have cA:=cG w t;have h1:=Rt.fy t.ks;have h2:=Rs.fy t.ro;obtain ⟨ck,dH⟩:∃c,bF t.ks=c:=⟨_,rfl⟩;obtain ⟨cr,tH⟩:∃c,aU t.ro=c:=⟨_,rfl⟩;obtain ⟨ct,bQ⟩:∃c,aC t=c:=⟨_,rfl⟩;simp only [dH] at h1;simp only [tH] at h2;have HK:Hid (bF t.ks=ck):=dH;have HR:Hid (aU t.ro=cr):=tH;have HT:Hid (aC t=ct):=bQ;clear dH tH bQ;go_enter func39,ntmps39;go_upto_region 1 with (fail)
 generalize w.alloc (.cells (aC t) 39)=w1 at *;rw [HT.out];obtain ⟨B,uj⟩:∃B,w.heap.size=B:=⟨_,rfl⟩;rw [uj] at hn ⊢;have VB:Hid (w.heap.size=B):=uj;clear uj;obtain ⟨c0,c1⟩:=hn.cells;have dV:Hid (Below w.heap.size w w1):=cA
 cases q1:decide (t.ep<0) with
 | true=>
  have BD:Hid (uq t=false):=WT (by have:=of_decide_eq_true q1;omega);generalize t.ep=ep at *;generalize t.fr=fr at *;go_wp2_with fail
  go_ret;exact ⟨aj (by rw [b8 (sU BD.out)]),dV.out⟩
 | false=>
  cases q2:decide (200<t.ep) with
  | true=>
   have BD:Hid (uq t=false):=WS (by have:=of_decide_eq_true q2;omega);generalize t.ep=ep at *;generalize t.fr=fr at *;go_wp2_with fail
   go_ret;exact ⟨aj (by rw [b8 (sU BD.out)]),dV.out⟩
  | false=>
   cases q3:decide (t.fr<22) with
   | true=>
    have BD:Hid (uq t=false):=WR (by have:=of_decide_eq_true q3;omega);generalize t.ep=ep at *;generalize t.fr=fr at *;go_wp2_with fail
    go_ret;exact ⟨aj (by rw [b8 (sU BD.out)]),dV.out⟩
   | false=>
    cases q4:decide (32768<t.fr) with
    | true=>
     have BD:Hid (uq t=false):=WQ (by have:=of_decide_eq_true q4;omega);generalize t.ep=ep at *;generalize t.fr=fr at *;go_wp2_with fail
     go_ret;exact ⟨aj (by rw [b8 (sU BD.out)]),dV.out⟩
    | false=>
     have BD:Hid (uq t=true):=Ri (by have:=of_decide_eq_false q1;omega) (by have:=of_decide_eq_false q2;omega) (by have:=of_decide_eq_false q3;omega) (by have:=of_decide_eq_false q4;omega);go_wp2_with (refine rdK hn HK.out _ rfl rfl rfl ?_)
     clear q1 q2 q3 q4 c0 c1;refine (h1 _).mono ?_;rintro r w2 ⟨rfl,hb2⟩;have uf:=hn.later hb2;have xO:=cA.trans (hb2.mono cA.size);clear h1 hn cA hb2 dV
     cases hk:eH t.ks with
     | false=>
      rw [Rt.fh hk];go_wp2_with fail
      go_ret;exact ⟨aj (by rw [b8 (VO hk)]),xO⟩
     | true=>
      rw [Rt.kT hk];go_wp2_with (refine ND uf HR.out _ rfl rfl rfl ?_)
      refine (h2 _).mono ?_;rintro r w3 ⟨rfl,hb3⟩;have Sl:=uf.later hb3;have uk:=xO.trans (hb3.mono xO.size);clear h2 uf xO hb3
      cases hr:lW t.ro with
      | false=>
       rw [qX hr];go_wp2_with fail
       go_ret;exact ⟨aj (by rw [b8 (VN hr)]),uk⟩
      | true=>
       rw [qW hr];go_wp2_with fail
       go_loopw [3] (fun i wx=>∃k:Nat,k≤21∧i=.int .i64 (k:Int)∧Below w3.heap.size w3 wx∧∀j,j<k→DB t j=true) (fun i _=>21 - (intOf i).toNat)
       case atStart=>exact ⟨0,by omega,rfl,Below.refl _ _,fun j hj=>by omega⟩
       case round=>
        obtain ⟨k,adU,rfl,hb,hf⟩:=hrel;have fE:Hid (Below w3.heap.size w3 wr):=hb;have HB:Hid (Below w.heap.size w wr):=uk.trans (hb.mono uk.size);have HF:Hid (∀j,j<k→DB t j=true):=hf;have hT:=Sl.later hb;clear hb hf;by_cases dA:k<21
        ·have k8:(k:Int)<21:=by omega
         have k0:(0:Int)≤(k:Int):=by omega
         obtain ⟨c0,c1⟩:=hT.cells;obtain ⟨d0,d1⟩:=hT.key k dA;obtain ⟨e,he⟩:∃e,t.ks k=e:=⟨_,rfl⟩;rw [he] at d0 d1;have HE:Hid (t.ks k=e):=he;clear he hT
         cases g1:decide (t.fr≤e.aB) with
         | true=>
          have HG:Hid (t.fr≤e.aB):=id (α:=t.fr≤e.aB) (of_decide_eq_true g1);go_upto_region 6 with (fail)
          go_quiet (fail)
          go_wp2_with fail
          go_ret;exact ⟨aj (by rw [b8 (EY (by unfold sH;rw [e9 dA (Jg HE.out HG.out)]))]),HB.out.trans ((bj _ _).mono HB.out.size)⟩
         | false=>
          have HG:Hid (¬t.fr≤e.aB):=id (α:=¬t.fr≤e.aB) (of_decide_eq_false g1)
          cases g2:decide (t.ep<e.bp) with
          | true=>
           have iP:Hid (t.ep<e.bp):=id (α:=t.ep<e.bp) (of_decide_eq_true g2);go_upto_region 6 with (fail)
           go_quiet (fail)
           go_wp2_with fail
           go_ret;exact ⟨aj (by rw [b8 (EY (by unfold sH;rw [e9 dA (Jf HE.out iP.out)]))]),HB.out.trans ((bj _ _).mono HB.out.size)⟩
          | false=>
           have iP:Hid (¬t.ep<e.bp):=id (α:=¬t.ep<e.bp) (of_decide_eq_false g2);go_upto_region 6 with (fail)
           go_quiet (fail)
           go_wp2_with fail
           go_roundw
           case rel=>
            refine ⟨k+1,by omega,by go_num,fE.out.trans ((bj _ _).mono fE.out.size),fun j hj=>?_⟩;rcases Nat.lt_or_ge j k with h | h
            ·exact HF.out j h
            ·obtain rfl:j=k:=by omega
             exact Je HE.out (by have:=HG.out;omega) (by have:=iP.out;omega)
           case measure=>simp [intOf];omega
        ·obtain rfl:k=21:=by omega
         have HFK:Hid (sH t=true):=by unfold sH;exact gm HF.out
         go_wp2_with fail
         rw [show ((21:Nat):Int)=21 from rfl];obtain ⟨w4,hw4⟩:∃w4,wr=w4:=⟨_,rfl⟩;rw [hw4] at hT HB ⊢;clear hw4 fE HF;go_loopw [4] (fun i wx=>∃k:Nat,k≤64∧i=.int .i64 (k:Int)∧Below w4.heap.size w4 wx∧∀j,j<k→Gu t j=true) (fun i _=>64 - (intOf i).toNat)
         case atStart=>exact ⟨0,by omega,rfl,Below.refl _ _,fun j hj=>by omega⟩
         case round=>
          obtain ⟨s,adQ,rfl,hb,hf⟩:=hrel;have fE:Hid (Below w4.heap.size w4 wr):=hb;have bm:Hid (Below w.heap.size w wr):=HB.out.trans (hb.mono HB.out.size);have HF:Hid (∀j,j<s→Gu t j=true):=hf;have jS:=hT.later hb;clear hb hf;by_cases xF:s<64
          ·have s8:(s:Int)<64:=by omega
           have s0:(0:Int)≤(s:Int):=by omega
           obtain ⟨c0,c1⟩:=jS.cells;obtain ⟨d0,d1,d2⟩:=jS.ent s xF;obtain ⟨e,he⟩:∃e,t.ro s=e:=⟨_,rfl⟩;rw [he] at d0 d1 d2;have HE:Hid (t.ro s=e):=he;clear he
           cases g1:decide (t.fr≤e.aB) with
           | true=>
            have HG:Hid (t.fr≤e.aB):=id (α:=t.fr≤e.aB) (of_decide_eq_true g1);go_upto_region 11 with (fail)
            go_quiet (fail)
            go_wp2_with fail
            go_ret;exact ⟨aj (by rw [b8 (zV (by unfold qQ;rw [e9 xF (I7 HE.out HG.out)]))]),bm.out.trans ((bj _ _).mono bm.out.size)⟩
           | false=>
            have HG:Hid (¬t.fr≤e.aB):=id (α:=¬t.fr≤e.aB) (of_decide_eq_false g1)
            cases g2:decide (t.ep<e.dx) with
            | true=>
             have iP:Hid (t.ep<e.dx):=id (α:=t.ep<e.dx) (of_decide_eq_true g2);go_upto_region 11 with (fail)
             go_quiet (fail)
             go_wp2_with fail
             go_ret;exact ⟨aj (by rw [b8 (zV (by unfold qQ;rw [e9 xF (I6 HE.out iP.out)]))]),bm.out.trans ((bj _ _).mono bm.out.size)⟩
            | false=>
             have iP:Hid (¬t.ep<e.dx):=id (α:=¬t.ep<e.dx) (of_decide_eq_false g2);go_upto_region 11 with (fail)
             go_quiet (fail)
             rename_i nq
             have R6:Hid (Below w.heap.size w (wr.drewN nq)):=bm.out.trans ((bj _ _).mono bm.out.size);have ab8:Hid (Below w4.heap.size w4 (wr.drewN nq)):=fE.out.trans ((bj _ _).mono fE.out.size);have P5:=jS.later (bj wr nq);clear c0 c1 d0 d1 d2 jS bm fE;generalize wr.drewN nq=w5 at *;go_wp2_with fail
             go_loopw [5] (fun i wx=>∃k:Nat,k≤21∧i=.int .i64 (k:Int)∧Below w5.heap.size w5 wx∧∀j,j<k→decide ((t.ks j).aB=e.aB)=false) (fun i _=>21 - (intOf i).toNat)
             case atStart=>exact ⟨0,by omega,rfl,Below.refl _ _,fun j hj=>by omega⟩
             case round=>
              obtain ⟨v,adM,rfl,hb,hf⟩:=hrel;have HBV:Hid (Below w5.heap.size w5 wr):=hb;have HFV:Hid (∀j,j<v→decide ((t.ks j).aB=e.aB)=false):=hf;have hT6:=P5.later hb;have HB6:Hid (Below w.heap.size w wr):=R6.out.trans (hb.mono R6.out.size);clear hb hf;by_cases hv8:v<21
              ·have v8:(v:Int)<21:=by omega
               have v0:(0:Int)≤(v:Int):=by omega
               obtain ⟨d0,d1,d2⟩:=hT6.ent s xF;rw [HE.out] at d0 d1 d2;obtain ⟨p0,p1⟩:=hT6.key v hv8;obtain ⟨x,hx⟩:∃x,(t.ks v).aB=x:=⟨_,rfl⟩;rw [hx] at p0;have HX:Hid ((t.ks v).aB=x):=hx;clear hx hT6 p1;by_cases Me:x=e.aB
               ·have YF:(x==e.aB)=true:=by simp [Me]
                have HXE:Hid (x=e.aB):=Me;clear Me;go_upto_region 16 with (fail)
                go_quiet (fail)
                go_wp2_with fail
                go_ret;exact ⟨aj (by rw [b8 (zV (by unfold qQ;rw [e9 xF (I5 HE.out (by unfold Pb;rw [q9 hv8 (by rw [HX.out,HXE.out];simp)]))]))]),HB6.out.trans ((bj _ _).mono HB6.out.size)⟩
               ·have YF:(x==e.aB)=false:=by simp [Me]
                have HXE:Hid (¬x=e.aB):=Me;clear Me;go_upto_region 16 with (fail)
                go_quiet (fail)
                go_wp2_with fail
                go_roundw
                case rel=>
                 refine ⟨v+1,by omega,by go_num,HBV.out.trans ((bj _ _).mono HBV.out.size),fun j hj=>?_⟩;rcases Nat.lt_or_ge j v with h | h
                 ·exact HFV.out j h
                 ·obtain rfl:j=v:=by omega
                  rw [HX.out];exact decide_eq_false HXE.out
                case measure=>simp [intOf];omega
              ·obtain rfl:v=21:=by omega
               go_wp2_with fail
               go_roundw
               case rel=>
                refine ⟨s+1,by omega,by go_num,ab8.out.trans (HBV.out.mono ab8.out.size),fun j hj=>?_⟩;rcases Nat.lt_or_ge j s with h | h
                ·exact HF.out j h
                ·obtain rfl:j=s:=by omega
                 exact I4 HE.out (by have:=HG.out;omega) (by have:=iP.out;omega) (by unfold Pb;exact Bv HFV.out)
               case measure=>simp [intOf];omega
          ·obtain rfl:s=64:=by omega
           go_wp2_with fail
           go_ret;exact ⟨aj (by rw [p_ (MU BD.out hk hr HFK.out (by unfold qQ;exact gm HF.out))]),bm.out⟩
open Rt (Ky zK bF bq cK kE Ez Ey)
open Rs (En zE aU bg jW cN)
variable {w:World} {B:Nat} {e:Ky}
theorem F4:(prog.info? 31).map (·.size)=some 2:=by kernel_rfl
theorem Td {ops:Array Oper} {rest:List Oper} {o:Oper} {a:Act} {Q:Exit→Act→World→Prop} (h:cK w B e) (d:Ky) (hgd:o.guard=none) (x y:Operand) (ho:o.op=.store 31 x y)
  (hx:a.eval x=.pointer (some ⟨B,0,none⟩)) (hy:a.eval y=.agg #[.int .i64 d.aB,.int .i64 d.bp]) (k:wpList prog ops Q rest (a.put o.dst undef) (w.setRow B #[.int .i64 d.aB,.int .i64 d.bp])):wpList prog ops Q (o::rest) a w:=
 wpList_store_row hgd 31 x y ho B _ hx hy 31 _ h F4 rfl (by simp [Value.oneCell']) k
theorem cK.row (h:cK w B e) (d:Ky):cK (w.setRow B #[.int .i64 d.aB,.int .i64 d.bp]) B d:=Rt.ai h _
theorem cK.set (h:cK w B e) (a b:Int):cK ((w.setCell ⟨B,0,none⟩ (.int .i64 a)).setCell ⟨B,1,none⟩ (.int .i64 b)) B ⟨a,b⟩:=by
 have h3:=Rt.aO (Rt.aO h 0 (.int .i64 a)) 1 (.int .i64 b);exact h3
theorem mC {fn:Func} {p t:Tmp} (hf:fn.results=#[.cell p 31,.tmp t]) (tmps:Array Value) (W:World) (B:Nat) (e:Ky) (hp:tmps[p]? =some (.pointer (some ⟨B,0,none⟩))) (hb:cK W B e):
  (results fn tmps).run prog W=.ok (.tuple #[.agg #[.int .i64 e.aB,.int .i64 e.bp],tmps.getD t undef]) W:=by
 have h:=run_loadVar_row W B _ 31 _ _ _ hb underlying31 rfl F4;simp [results,hf,hp,asAddr,h]
/- What stands while a key is looked up. -/
structure SK (w W:World) (B K:Nat) (t:Tr):Prop where
 tr:az W B t
 ky:∃e:Ky,cK W K e
 aK:Below w.heap.size w W
 ne:B≠K
 ge:w.heap.size≤K
theorem SK.later {w W W':World} {B K:Nat} {t:Tr} (h:SK w W B K t) (hb:Below W.heap.size W W'):SK w W' B K t:=⟨h.tr.later hb,h.ky.elim fun e he=>⟨e,he.later hb⟩,h.aK.trans (hb.mono h.aK.size),h.ne,h.ge⟩
theorem SK.set {w W:World} {B K:Nat} {t:Tr} (h:SK w W B K t) (a b:Int):SK w ((W.setCell ⟨K,0,none⟩ (.int .i64 a)).setCell ⟨K,1,none⟩ (.int .i64 b)) B K t:=
 ⟨(Rt.eh h.ne _ _ _ _).trans h.tr,h.ky.elim fun e he=>⟨_,cK.set he a b⟩,Rt.ei h.aK h.ge _ _ _ _,h.ne,h.ge⟩
theorem SK.new (w:World) (t:Tr):SK w ((w.alloc (.cells (aC t) 39)).alloc (.cells #[.int .i64 0,.int .i64 0] 31)) w.heap.size (w.heap.size+1) t:=by
 have h1:=az.new w t;have hb1:=cG w t;have h2:=cK.new (w.alloc (.cells (aC t) 39)) zK;have hb2:=Rt.lh (w.alloc (.cells (aC t) 39)) zK;rw [World.size_alloc] at h2;exact ⟨h1.later hb2,⟨_,h2⟩,hb1.trans (hb2.mono hb1.size),by omega,by omega⟩
/- The document's levels and slots of nodes, in cases. -/
theorem FI (v:Int):(V1 v=false∧(v<0∨85≤v))∨(∃n:Nat,v=(n:Int)∧n<21)∨∃s:Nat,v=21+(s:Int)∧s<64:=by
 by_cases h0:0≤v∧v<85
 ·by_cases h1:v<21
  ·exact Or.inr (Or.inl ⟨v.toNat,by omega,by omega⟩)
  ·exact Or.inr (Or.inr ⟨(v - 21).toNat,by omega,by omega⟩)
 ·exact Or.inl ⟨by simp [V1];omega,by omega⟩
set_option maxRecDepth 100000 in
theorem uA (t:Tr) (dH:gu t=true) (v:Int) (w:World):Calls prog 86 #[.agg (aC t),.int .i64 v] w fun e w'=>e=nS t v∧Below w.heap.size w w':=by
 have gA:=SK.new w t;obtain ⟨ct,bQ⟩:∃c,aC t=c:=⟨_,rfl⟩;have HT:Hid (aC t=ct):=bQ;clear bQ;go_enter func86,ntmps86;go_upto_region 1 with (fail)
 generalize (w.alloc (.cells (aC t) 39)).alloc (.cells #[.int .i64 0,.int .i64 0] 31)=w2 at *;rw [HT.out];obtain ⟨K,hK⟩:∃K,w.heap.size+1=K:=⟨_,rfl⟩;rw [hK] at gA ⊢;obtain ⟨B,hB⟩:∃B,w.heap.size=B:=⟨_,rfl⟩;rw [hB] at gA ⊢;clear hK hB;obtain ⟨k,hk⟩:=gA.ky;rcases FI v with ⟨hv,hv2⟩ | ⟨n,rfl,hn⟩ | ⟨s,rfl,xF⟩
 ·have hl:=Sh.vG v hv2;clear hv2;go_wp2_with (first | (go_at_call 127;refine (hl _).mono ?_;rintro r w2 ⟨rfl,rfl⟩) | (refine Td hk zK rfl _ _ rfl rfl rfl ?_))
  refine bodyPost_ret (mC (p:=4) (t:=5) rfl _ _ K zK rfl (cK.row hk _)) rfl ?_;exact ⟨nS.no (O7 dH hv) (by decide),Rt.ag gA.ge gA.aK _⟩
 ·have hl:=Sh.n9 (n:Int) (by omega) (by omega);have n0:(0:Int)≤(n:Int):=by omega
  have n1:(n:Int)<21:=by omega
  obtain ⟨c0,c1⟩:=gA.tr.key n hn;have HA:=nS.inner (jm (v:=(n:Int)) dH n0 n1) hn;obtain ⟨e,he⟩:∃e,t.ks n=e:=⟨_,rfl⟩;rw [he] at c0 c1 HA;have Mx:Hid (Ending.returned (.tuple #[.agg #[.int .i64 e.aB,.int .i64 e.bp],.int .i64 0])=nS t (n:Int)):=HA;clear he HA;go_wp2_with (first | (go_at_call 127;refine (hl _).mono ?_;rintro r w2 ⟨rfl,rfl⟩) | (refine Td hk e rfl _ _ rfl rfl rfl ?_))
  refine bodyPost_ret (mC (p:=4) (t:=5) rfl _ _ K e rfl (cK.row hk _)) rfl ?_;exact ⟨Mx.out,Rt.ag gA.ge gA.aK _⟩
 ·have hl:=Sh.n9 (21+(s:Int)) (by omega) (by omega);have qC:=Rt.CE (t.ro s).who (t.ro s).aB (t.ro s).dx t.ep (by have:=(di dH).e1;omega);have HA:Rt.dv (t.ro s).aB (t.ro s).dx t.ep=nS t (21+(s:Int)):=nS.leaf dH xF;unfold Rt.dv at qC HA;obtain ⟨X,hX⟩:∃X,Ez (t.ro s).aB (t.ro s).dx t.ep=X:=⟨_,rfl⟩;obtain ⟨Y,hY⟩:∃Y,Ey (t.ro s).aB (t.ro s).dx t.ep=Y:=⟨_,rfl⟩;obtain ⟨E,hE⟩:∃E,kE (t.ro s).aB (t.ro s).dx t.ep=E:=⟨_,rfl⟩;simp only [hX,hY,hE] at qC HA;have Mx:Hid (Ending.returned (.tuple #[.agg #[.int .i64 X,.int .i64 Y],.int .i64 E])=nS t (21+(s:Int))):=HA;clear HA hX hY hE hk;have v0:decide (21+(s:Int)<21)=false:=decide_eq_false (by omega);have v1:IntKind.i64.wrap (21+(s:Int) - 21)=(s:Int):=by rw [show 21+(s:Int) - 21=(s:Int) by omega];exact Rt.bC _ (by omega) (by omega)
  obtain ⟨v,hv⟩:∃v,21+(s:Int)=v:=⟨_,rfl⟩;rw [hv] at hl v0 v1 ⊢;clear hv;go_upto_region 5 with (go_at_call 127;refine (hl _).mono ?_;rintro r w2 ⟨rfl,rfl⟩)
  have dm:SK w w2.drew B K t:=gA.later (aG _);clear gA hl v0;have s0:(0:Int)≤(s:Int):=by omega
  have s1:(s:Int)<64:=by omega
  obtain ⟨e,he⟩:∃e,t.ro s=e:=⟨_,rfl⟩;rw [he] at qC;have HE:Hid (t.ro s=e):=he;clear he;refine wp_region_held_drew (S:=fun W=>SK w W B K t) (by kernel_rfl) dm (fun hHeld=>?_);refine aH 0 (.int .i64 v) rfl ?_;go_frame;refine aH 1 (.int .i64 (s:Int)) rfl ?_;go_frame;refine aH 2 (.pointer (some ⟨B,44,none⟩)) rfl ?_;go_frame;refine aH 3 (.pointer (some ⟨B,44+s * 3,none⟩)) rfl ?_;go_frame;refine dG 4 (.agg #[.int .i64 e.who,.int .i64 e.aB,.int .i64 e.dx]) rfl (fun w hSw=>by obtain ⟨c0,c1,c2⟩:=hSw.tr.ent s xF;rw [HE.out] at c0 c1 c2;clear hSw;go_simp) ?_;go_frame;refine aH 5 (.pointer (some ⟨B,0,none⟩)) rfl ?_;go_frame;refine dG 6 (.int .i64 t.ep) rfl (fun w hSw=>by obtain ⟨c0,c1⟩:=hSw.tr.cells;clear hSw;go_simp) ?_;go_frame;refine dh 7 rfl fun K hK=>?_;go_simp
  refine (qC _).mono ?_;rintro r w3 ⟨rfl,hb3⟩;go_wp2_with fail
  refine hK.out _ _ (hHeld.later hb3) (fun aD=>?_);obtain ⟨k3,hk3⟩:=aD.ky;obtain ⟨k0,k1⟩:=hk3.cells;have f0:=Rt.ax hk3 0;have f1:=Rt.ax hk3 1;clear hHeld hb3;clear hK K;try go_frame
  refine aH 8 (.agg #[.int .i64 X,.int .i64 Y]) rfl ?_;go_frame;refine aH 9 (.int .i64 E) rfl ?_;go_frame;refine dh 10 rfl fun K hK=>?_;go_simp
  refine hK.out _ _ (aD.set X Y) (fun aN=>?_);clear hK K;try go_frame
  refine aH 11 (.int .i64 E) rfl ?_;go_frame;refine wpAnyH_done (by kernel_rfl) ?_ _;go_wp2_with fail
  refine bodyPost_ret (mC (p:=4) (t:=5) rfl _ _ K ⟨X,Y⟩ rfl (cK.set hk3 _ _)) rfl ?_;exact ⟨Mx.out,aN.aK⟩
open Rt (Ky zK bF bq cK)
structure SL (w W:World) (B K:Nat) (t:Tr) (e:Ky):Prop where
 tr:az W B t
 ky:cK W K e
 aK:Below w.heap.size w W
open Go.RowKit Go.Maps
open Rt (Ky zK cK)
open Rs (En cN)
set_option maxRecDepth 4000
/- The key of a node, in a right tree. -/
theorem kn {t:Tr} (h:gu t=true) {k:Nat} (hk:k<85) (h0:x8 t (k:Int)=0):(k<21∧x7 t (k:Int)=t.ks k)∨∃s,s<64∧k=21+s∧cN (t.ro s)=true∧x7 t (k:Int)=⟨(t.ro s).aB,t.ep - (t.ro s).dx⟩:=by
 by_cases hi:k<21
 ·left
  refine ⟨hi,?_⟩;unfold x7;rw [h0,if_pos rfl,if_pos (by omega),Int.toNat_natCast]
 ·right
  refine ⟨k - 21,by omega,by omega,?_,?_⟩
  ·have e:(k:Int)=21+((k - 21:Nat):Int):=by omega
   rw [e,qu h (by omega)] at h0
   cases ht:cN (t.ro (k - 21)) with
   | true=>rfl
   | false=>rw [K7 ht] at h0;cases h0
  ·unfold x7;rw [h0,if_pos rfl,if_neg (by omega),show ((k:Int) - 21).toNat=k - 21 by omega]
open Rt (Ky zK bF)
open Rs (En zE aU bg jW cN tk)
open Sh (bc sj)
theorem Up (r:Nat→En) (v:Int):(bits .and .u64 ((tk r:Nat):Int) (sj v) !=0)=ug r v:=by
 have h:=Sh.IQ v ((tk r:Nat):Int) (by omega) (by have:=Rs.fF r;omega);obtain ⟨m0,m1⟩:=Sh.Yn v;rw [u64_and _ _ m0 m1 (by omega) (by have:=Rs.fF r;omega),Nat.and_comm,←u64_and _ _ (by omega) (by have:=Rs.fF r;omega) m0 m1,Uv] at h;exact h
set_option maxRecDepth 100000 in
theorem NK (f:Nat→En) (v:Int) (w:World):Calls prog 47 #[.agg (aU f),.int .i64 v] w fun e w'=>e=.returned (.bool (ug f v))∧Below w.heap.size w w':=by
 have hn:=bg.new w f;have cA:=Rs.dr w f;go_enter func47,ntmps47;go_upto_region 1 with (fail)
 generalize w.alloc (.cells (aU f) 37)=w1 at *;obtain ⟨c,hc⟩:∃c,aU f=c:=⟨_,rfl⟩;rw [hc];clear hc;obtain ⟨B,uj⟩:∃B,w.heap.size=B:=⟨_,rfl⟩;rw [uj] at hn ⊢;clear uj;go_wp2_with fail
 go_loopw [5] (fun i wx=>∃k:Nat,k≤64∧i=.int .i64 (k:Int)∧wx=w1∧∀j,j<k→(cN (f j)&&bc v (21+(j:Int)))=false) (fun i _=>64 - (intOf i).toNat)
 case atStart=>exact ⟨0,by omega,rfl,rfl,fun j hj=>by omega⟩
 case round=>
  obtain ⟨k,hk,rfl,rfl,hf⟩:=hrel;have HF:Hid (∀j,j<k→(cN (f j)&&bc v (21+(j:Int)))=false):=hf;have HB:Hid (Below w.heap.size w wr):=cA;clear hf cA;by_cases dA:k<64
  ·have k8:(k:Int)<64:=by omega
   have k0:(0:Int)≤(k:Int):=by omega
   obtain ⟨c0,c1,c2⟩:=hn.cells k dA;have hl:=Sh.yN (k:Int) (by omega) (by omega);have hbl:=Sh.pC v (21+(k:Int));obtain ⟨e,he⟩:∃e,f k=e:=⟨_,rfl⟩;rw [he] at c0 c1 c2;have HE:Hid (f k=e):=he;clear he
   cases ht:cN e with
   | false=>
    have hb0:=Rs.p9 ht;have q1:(e.aB !=0)=false:=by simp [hb0]
    clear hb0;go_wp2_with fail
    go_roundw
    case rel=>
     refine ⟨k+1,by omega,by go_num,(by first | rfl | trivial),fun j hj=>?_⟩;rcases Nat.lt_or_ge j k with h | h
     ·exact HF.out j h
     ·obtain rfl:j=k:=by omega
      rw [HE.out,ht];rfl
    case measure=>simp [intOf];omega
   | true=>
    have q1:(e.aB !=0)=true:=by simp [Rs.ux ht]
    cases wP:bc v (21+(k:Int)) with
    | false=>
     rw [wP] at hbl;go_wp2_with (first | (go_at_call 50;refine (hl _).mono ?_;rintro r wr ⟨rfl,rfl⟩) | (go_at_call 85;refine (hbl _).mono ?_;rintro r wr ⟨rfl,rfl⟩))
     go_roundw
     case rel=>
      refine ⟨k+1,by omega,by go_num,(by first | rfl | trivial),fun j hj=>?_⟩;rcases Nat.lt_or_ge j k with h | h
      ·exact HF.out j h
      ·obtain rfl:j=k:=by omega
       rw [HE.out,ht,wP];rfl
     case measure=>simp [intOf];omega
    | true=>
     rw [wP] at hbl;go_wp2_with (first | (go_at_call 50;refine (hl _).mono ?_;rintro r wr ⟨rfl,rfl⟩) | (go_at_call 85;refine (hbl _).mono ?_;rintro r wr ⟨rfl,rfl⟩))
     go_ret;exact ⟨ae (by unfold ug;rw [q9 dA (by rw [HE.out,ht,wP];rfl)]),HB.out⟩
  ·obtain rfl:k=64:=by omega
   go_wp2_with fail
   go_ret;exact ⟨ae (by unfold ug;rw [Bv HF.out]),HB.out⟩
end Go.Proofs.YtanaapfobpgibaaGreatDoor
