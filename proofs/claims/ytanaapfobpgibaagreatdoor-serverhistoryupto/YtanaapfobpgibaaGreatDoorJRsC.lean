/- RsC, RsMath2, RsD, RsE, joined. -/
import Derived.Test.YtanaapfobpgibaaGreatDoorJRsMath
import Derived.Test.YtanaapfobpgibaaGreatDoorHd
open Go.Proofs.Tryz
set_option maxHeartbeats 4000000
namespace Go.Proofs.YtanaapfobpgibaaGreatDoor.Rs
open Go.RowKit
set_option linter.unusedVariables false
set_option linter.unusedSimpArgs false
set_option maxRecDepth 100000 in
theorem fH (f:Nat→En) (w:World):Calls prog 186 #[.agg (aU f)] w fun r w'=>r=.returned (.int .i64 (oA f))∧Below w.heap.size w w':=by
 have hn:=bg.new w f;have cA:=dr w f;go_enter func186,ntmps186;go_upto_region 1 with (fail)
 generalize w.alloc (.cells (aU f) 37)=w1 at *;refine wp_region_lit ?_;refine iV hn rfl _ rfl rfl ?_;obtain ⟨c,hc⟩:∃c,aU f=c:=⟨_,rfl⟩;rw [hc];go_wp2_with fail
 go_loopw [8] (fun i wx=>∃k:Nat,k≤64∧i=.int .i64 (k:Int)∧Below w1.heap.size w1 wx∧∀j,j<k→FD f j=true) (fun i _=>64 - (intOf i).toNat)
 case atStart=>exact ⟨0,by omega,rfl,Below.refl _ _,fun j hj=>by omega⟩
 case round=>
  obtain ⟨k,hk,rfl,hb,hf⟩:=hrel;have HB:Hid (Below w.heap.size w wr):=cA.trans (hb.mono cA.size);have fE:Hid (Below w1.heap.size w1 wr):=hb;have HF:Hid (∀j,j<k→FD f j=true):=hf;clear hb hf;by_cases dA:k<64
  ·have k8:(k:Int)<64:=by omega
   have k9:(k:Int)≤64:=by omega
   have ht:=C9 (f k);have hi:=Db f k dA;rw [hc] at hi;have hE:=jW.new wr (f k);have ui:=fo wr (f k);obtain ⟨e,he⟩:∃e,f k=e:=⟨_,rfl⟩;rw [he] at ht hi hE ui;have HE:Hid (f k=e):=he;clear hc he;go_wp2_with fail
   refine (ht _).mono ?_;rintro r w2 ⟨rfl,hb2⟩;have oz:=hE.later hb2;have bm:Hid (Below wr.heap.size wr w2):=ui.trans (hb2.mono ui.size);have Lv:Below w1.heap.size w1 w2:=fE.out.trans (bm.out.mono fE.out.size);have EF:=hn.later Lv;have dR:Hid (Below w.heap.size w w2):=HB.out.trans (bm.out.mono HB.out.size);obtain ⟨Be,tI⟩:∃Be,wr.heap.size=Be:=⟨_,rfl⟩;rw [tI] at oz ⊢;clear hE ui hb2 ht hi HB bm fE tI
   cases qE:H4 e with
   | false=>
    go_wp2_with fail
    go_ret;exact ⟨aj (by rw [nw dA (by unfold FD;rw [HE.out,qE];rfl)]),dR.out⟩
   | true=>
    go_wp2_with fail
    go_loopw [18] (fun i wx=>∃j:Nat,j≤k∧i=.int .i64 (j:Int)∧Below w2.heap.size w2 wx∧∀m,m<j→xQ (f m) e=false) (fun i _=>k - (intOf i).toNat)
    case atStart=>exact ⟨0,by omega,rfl,Below.refl _ _,fun j hj=>by omega⟩
    case round=>
     obtain ⟨j,hj,rfl,hb,hf⟩:=hrel;have Vz:Hid (Below w2.heap.size w2 wr):=hb;have HG:Hid (∀m,m<j→xQ (f m) e=false):=hf;have hR:=EF.later hb;have xN:=oz.later hb;clear hf hb;by_cases hjk:j<k
     ·have j1:(j:Int)<(k:Int):=by omega
      have j2:(0:Int)≤(j:Int):=by omega
      obtain ⟨c0,c1,c2⟩:=hR.cells j (by omega);obtain ⟨d0,d1,d2⟩:=xN.cells;have e0:=fun o=>bz d0 o
      have e1:=fun o=>bz d1 o
      have e2:=fun o=>bz d2 o
      have PW:=DU (f j) e;have ui:=fo wr (f j);have HJ:Hid (xQ (f j) e=xQ (f j) e):=rfl;clear d0 d1 d2 hR xN;obtain ⟨d,hd⟩:∃d,f j=d:=⟨_,rfl⟩;rw [hd] at c0 c1 c2 PW ui;have HD:Hid (f j=d):=hd;clear hd;go_wp2_with fail
      refine (PW _).mono ?_;rintro r w3 ⟨rfl,hb3⟩;have R7:Hid (Below wr.heap.size wr w3):=ui.trans (hb3.mono ui.size);clear PW ui hb3 c0 c1 c2 e0 e1 e2
      cases hcc:xQ d e with
      | false=>
       go_wp2_with fail
       go_roundw
       case rel=>
        refine ⟨j+1,by omega,by go_num,Vz.out.trans (R7.out.mono Vz.out.size),fun m hm=>?_⟩;rcases Nat.lt_or_ge m j with h | h
        ·exact HG.out m h
        ·obtain rfl:m=j:=by omega
         rw [HD.out];exact hcc
       case measure=>simp [intOf];omega
      | true=>
       go_wp2_with fail
       go_ret;have wP:=dR.out.trans (Vz.out.mono dR.out.size);exact ⟨aj (by rw [nw dA (by unfold FD;rw [HE.out,rU hjk (by rw [HD.out];exact hcc)];simp)]),wP.trans (R7.out.mono wP.size)⟩
     ·obtain rfl:j=k:=by omega
      have j1:¬((j:Int)<(j:Int)):=by omega
      go_wp2_with fail
      go_roundw
      case rel=>
       refine ⟨j+1,by omega,by go_num,Lv.trans (Vz.out.mono Lv.size),fun m hm=>?_⟩;rcases Nat.lt_or_ge m j with h | h
       ·exact HF.out m h
       ·obtain rfl:m=j:=by omega
        unfold FD;rw [HE.out,qE,po HG.out];rfl
      case measure=>simp [intOf];omega
  ·obtain rfl:k=64:=by omega
   go_wp2_with fail
   go_ret;exact ⟨aj (by rw [zv HF.out]),HB.out⟩
set_option maxRecDepth 100000 in
theorem fy (f:Nat→En) (w:World):Calls prog 79 #[.agg (aU f)] w fun r w'=>r=.returned (.int .i64 (oA f))∧Below w.heap.size w w':=by
 have hn:=bg.new w f;have cA:=dr w f;go_enter func79,ntmps79;go_upto_region 1 with (fail)
 generalize w.alloc (.cells (aU f) 37)=w1 at *;obtain ⟨c,hc⟩:∃c,aU f=c:=⟨_,rfl⟩;rw [hc];clear hc;go_wp2_with fail
 go_loopw [3] (fun i wx=>∃k:Nat,k≤64∧i=.int .i64 (k:Int)∧Below w1.heap.size w1 wx∧∀j,j<k→TN f j=true) (fun i _=>64 - (intOf i).toNat)
 case atStart=>exact ⟨0,by omega,rfl,Below.refl _ _,fun j hj=>by omega⟩
 case round=>
  obtain ⟨k,hk,rfl,hb,hf⟩:=hrel;have HB:Hid (Below w.heap.size w wr):=cA.trans (hb.mono cA.size);have fE:Hid (Below w1.heap.size w1 wr):=hb;have HF:Hid (∀j,j<k→TN f j=true):=hf;have hR:=hn.later hb;clear hb hf;by_cases dA:k<64
  ·have k8:(k:Int)<64:=by omega
   obtain ⟨c0,c1,c2⟩:=hR.cells k dA;have ht:=jw (f k);have hz:Yy (f k)=(decide ((f k).who=0)&&decide ((f k).aB=0)&&decide ((f k).dx=0)):=rfl;obtain ⟨e,he⟩:∃e,f k=e:=⟨_,rfl⟩;rw [he] at ht c0 c1 c2 hz;have HE:Hid (f k=e):=he;have HZ:Hid (Yy e=(decide (e.who=0)&&decide (e.aB=0)&&decide (e.dx=0))):=hz;clear he hz
   cases hzz:Yy e with
   | true=>
    clear ht;have hzq:Ml e zE=true:=hzz;go_wp2_with (refine abH (e:=e) (d:=zE) hzq rfl _ _ rfl rfl rfl ?_)
    go_roundw
    case rel=>
     refine ⟨k+1,by omega,by go_num,fE.out,fun m hm=>?_⟩;rcases Nat.lt_or_ge m k with h | h
     ·exact HF.out m h
     ·obtain rfl:m=k:=by omega
      unfold TN;rw [HE.out,hzz];rfl
    case measure=>simp [intOf];omega
   | false=>
    have hzq:Ml e zE=false:=hzz;go_wp2_with (refine abH (e:=e) (d:=zE) hzq rfl _ _ rfl rfl rfl ?_)
    refine (ht _).mono ?_;rintro r w2 ⟨rfl,hb2⟩;have EF:=hR.later hb2;have dR:Hid (Below w.heap.size w w2):=HB.out.trans (hb2.mono HB.out.size);have Lv:Below w1.heap.size w1 w2:=fE.out.trans (hb2.mono fE.out.size);clear ht hb2 HB fE hR
    cases qE:fw e with
    | false=>
     go_wp2_with fail
     go_ret;exact ⟨aj (by rw [nw dA (by rw [uF];unfold TN;rw [HE.out,qE,hzz];rfl)]),dR.out⟩
    | true=>
     clear c0 c1 c2;go_wp2_with fail
     go_loopw [4] (fun i wx=>∃j:Nat,j≤k∧i=.int .i64 (j:Int)∧Below w2.heap.size w2 wx∧∀m,m<j→(cN (f m)&&alike (f m) e)=false) (fun i _=>k - (intOf i).toNat)
     case atStart=>exact ⟨0,by omega,rfl,Below.refl _ _,fun j hj=>by omega⟩
     case round=>
      obtain ⟨j,hj,rfl,hbq,hf⟩:=hrel;have HG:Hid (∀m,m<j→(cN (f m)&&alike (f m) e)=false):=hf;have Wy:=EF.later hbq;have HBQ:Hid (Below w2.heap.size w2 wr):=hbq;clear hf hbq;by_cases hjk:j<k
      ·have j1:(j:Int)<(k:Int):=by omega
       have j2:(j:Int)<64:=by omega
       obtain ⟨c0,c1,c2⟩:=Wy.cells j (by omega);obtain ⟨d0,d1,d2⟩:=Wy.cells k dA;obtain ⟨d,hd⟩:∃d,f j=d:=⟨_,rfl⟩;rw [hd] at c0 c1 c2;rw [HE.out] at d0 d1 d2;have HD:Hid (f j=d):=hd;have oy:alike d e=(decide (d.who=e.who)||decide (d.aB=e.aB)):=rfl;have HAL:Hid (alike d e=(decide (d.who=e.who)||decide (d.aB=e.aB))):=oy;clear hd Wy oy
       cases jo:cN d with
       | false=>
        have hb0:=p9 jo;have q1:(d.aB !=0)=false:=by simp [hb0]
        go_wp2_with fail
        go_quiet (fail)
        go_wp2_with fail
        go_roundw
        case rel=>
         refine ⟨j+1,by omega,by go_num,HBQ.out.trans ((ix _ _).mono HBQ.out.size),fun m hm=>?_⟩;rcases Nat.lt_or_ge m j with h | h
         ·exact HG.out m h
         ·obtain rfl:m=j:=by omega
          rw [HD.out,jo];rfl
        case measure=>simp [intOf];omega
       | true=>
        have q1:(d.aB !=0)=true:=by simp [ux jo]
        by_cases hw:d.who=e.who
        ·have q2:(d.who==e.who)=true:=by simp [hw]
         have HW:Hid (d.who=e.who):=hw;clear hw;go_wp2_with fail
         go_quiet (fail)
         go_wp2_with fail
         go_ret;have wP:=dR.out.trans (HBQ.out.mono dR.out.size);exact ⟨aj (by rw [nw dA (by rw [uF];unfold TN;rw [HE.out,hzz,rU hjk (by rw [HD.out,jo,HAL.out];simp [HW.out])];simp)]),wP.trans ((ix _ _).mono wP.size)⟩
        ·have q2:(d.who==e.who)=false:=by simp [hw]
         by_cases P3:d.aB=e.aB
         ·have q3:(d.aB==e.aB)=true:=by simp [P3]
          have HW:Hid (d.aB=e.aB):=P3;clear P3;go_wp2_with fail
          go_quiet (fail)
          go_wp2_with fail
          go_ret;have wP:=dR.out.trans (HBQ.out.mono dR.out.size);exact ⟨aj (by rw [nw dA (by rw [uF];unfold TN;rw [HE.out,hzz,rU hjk (by rw [HD.out,jo,HAL.out];simp [HW.out])];simp)]),wP.trans ((ix _ _).mono wP.size)⟩
         ·have q3:(d.aB==e.aB)=false:=by simp [P3]
          go_wp2_with fail
          go_quiet (fail)
          go_wp2_with fail
          go_roundw
          case rel=>
           refine ⟨j+1,by omega,by go_num,HBQ.out.trans ((ix _ _).mono HBQ.out.size),fun m hm=>?_⟩;rcases Nat.lt_or_ge m j with h | h
           ·exact HG.out m h
           ·obtain rfl:m=j:=by omega
            rw [HD.out,jo,HAL.out];simp [hw,P3]
          case measure=>simp [intOf];omega
      ·obtain rfl:j=k:=by omega
       have j1:¬((j:Int)<(j:Int)):=by omega
       go_wp2_with fail
       go_roundw
       case rel=>
        refine ⟨j+1,by omega,by go_num,Lv.trans (HBQ.out.mono Lv.size),fun m hm=>?_⟩;rcases Nat.lt_or_ge m j with h | h
        ·exact HF.out m h
        ·obtain rfl:m=j:=by omega
         unfold TN;rw [HE.out,qE,hzz,po HG.out];rfl
       case measure=>simp [intOf];omega
  ·obtain rfl:k=64:=by omega
   go_wp2_with fail
   go_ret;exact ⟨aj (by rw [zv fun j hj=>by rw [uF];exact HF.out j hj]),HB.out⟩
set_option maxRecDepth 4000
variable {f:Nat→En} {x:Int} {J L:List Int}
theorem DG (f:Nat→En) (x:Int):∀(n k:Nat),fd f x k n=-1∨∃j:Nat,fd f x k n=(j:Int)∧k≤j∧j<k+n∧at' f x j=true∧∀i,k≤i→i<j→at' f x i=false
 | 0,k=>.inl rfl
 | n+1,k=>by
  unfold fd
  cases h:at' f x k with
  | true=>exact .inr ⟨k,rfl,Nat.le_refl _,by omega,h,fun i h1 h2=>by omega⟩
  | false=>
   rcases DG f x n (k+1) with e | ⟨j,e,h1,h2,h3,h4⟩
   ·exact .inl (by simpa using e)
   ·refine .inr ⟨j,by simpa using e,by omega,by omega,h3,fun i g1 g2=>?_⟩;rcases Nat.lt_or_ge k i with g | g
    ·exact h4 i g g2
    ·obtain rfl:i=k:=by omega
     exact h
theorem sG (f:Nat→En) (x:Int):fC f x=-1∨∃j:Nat,fC f x=(j:Int)∧j<64∧at' f x j=true∧∀i,i<j→at' f x i=false:=by
 rcases DG f x 64 0 with e | ⟨j,e,h1,h2,h3,h4⟩
 ·exact .inl e
 ·exact .inr ⟨j,e,by omega,h3,fun i hi=>h4 i (by omega) hi⟩
theorem Ji {f:Nat→En} {x:Int}:∀(n k:Nat),fd f x k n=-1↔∀i,k≤i→i<k+n→at' f x i=false
 | 0,k=>⟨fun _ i h1 h2=>by omega,fun _=>rfl⟩
 | n+1,k=>by
  unfold fd
  cases h:at' f x k with
  | true=>
   refine ⟨fun e=>?_,fun e=>?_⟩
   ·simp at e
   ·rw [e k (Nat.le_refl _) (by omega)] at h;cases h
  | false=>
   simp only [Bool.false_eq_true,if_false];rw [Ji n (k+1)];refine ⟨fun e i h1 h2=>?_,fun e i h1 h2=>e i (by omega) (by omega)⟩;rcases Nat.lt_or_ge k i with g | g
   ·exact e i g (by omega)
   ·obtain rfl:i=k:=by omega
    exact h
theorem Qu:fC f x=-1↔∀i,i<64→at' f x i=false:=by
 unfold fC;rw [Ji 64 0];exact ⟨fun h i hi=>h i (by omega) (by omega),fun h i _ hi=>h i (by omega)⟩
/- Is the person on? -/
def on (f:Nat→En) (x:Int):Bool:=decide (0≤fC f x)
theorem Ot (f:Nat→En) (x:Int):on f x= !decide (fC f x=-1):=by
 unfold on;rcases sG f x with e | ⟨j,e,_⟩
 ·rw [e];rfl
 ·rw [e];have h1:(0:Int)≤(j:Int):=by omega
  have h2:¬((j:Int)=-1):=by omega
  simp [h1,h2]
/- The error of a person of a batch, behind those that stand ahead of it. -/
def er (f:Nat→En) (lv:Bool) (pre:List Int) (x:Int):Int:=
 if mv x then (if decide (x∈pre) then 15 else if lv then (if on f x then 0 else 16) else (if on f x then 17 else 0)) else 14
def gg (f:Nat→En) (lv:Bool):List Int→List Int→Int
 | _,[]=>0
 | pre,x::r=>if er f lv pre x=0 then gg f lv (pre++[x]) r else er f lv pre x
theorem uO (f:Nat→En) (lv:Bool) (p L:List Int) {k:Nat} (h:k<L.length):
  gg f lv (p++L.take k) (L.drop k)=if er f lv (p++L.take k) (L.getD k 0)=0 then gg f lv (p++L.take (k+1)) (L.drop (k+1)) else er f lv (p++L.take k) (L.getD k 0):=by
 have e1:L.getD k 0=L[k]:=by simp [List.getD,h]
 rw [List.drop_eq_getElem_cons h,gg,e1,List.take_succ_eq_append_getElem h,List.append_assoc]
theorem A3 (f:Nat→En) (lv:Bool) (p L:List Int):gg f lv (p++L.take L.length) (L.drop L.length)=0:=by simp [gg]
/- Does the batch fit? -/
def cnt (f:Nat→En):Nat:=(bl (tk f)).length
theorem sI (f:Nat→En):cnt f≤64:=Bi _
theorem QX (f:Nat→En):(bl (nt (tk f))).length=64 - cnt f:=by have:=Vl (fF f);unfold cnt;omega
def ft (f:Nat→En) (L J:List Int):Int:=
 if lW f then
  if gg f true [] L=0 then
   if gg f false L J=0 then
    if J.length>64 - cnt f+L.length then 18 else 0
   else gg f false L J
  else gg f true [] L
 else 31
theorem I2 (L J:List Int) (h:lW f=false):ft f L J=31:=by unfold ft;rw [h];rfl
theorem uM (J:List Int) (h:lW f=true) (h1:gg f true [] L≠0):ft f L J=gg f true [] L:=by unfold ft;rw [h,if_pos rfl,if_neg h1]
theorem uN (h:lW f=true) (h1:gg f true [] L=0) (h2:gg f false L J≠0):ft f L J=gg f false L J:=by unfold ft;rw [h,if_pos rfl,if_pos h1,if_neg h2]
theorem qN (h:lW f=true) (h1:gg f true [] L=0) (h2:gg f false L J=0):ft f L J=if J.length>64 - cnt f+L.length then 18 else 0:=by unfold ft;rw [h,if_pos rfl,if_pos h1,if_pos h2]
theorem qW (h:lW f=true):oA f=0:=by unfold oA;rw [h];rfl
theorem qX (h:lW f=false):oA f=31:=by unfold oA;rw [h];rfl
/- The marks of those who have been seen. -/
def xC (l:List Int):Array Value:=Array.ofFn (n:=256) fun i=>.bool (decide ((i.1:Int)∈l))
@[simp] theorem M_ (l:List Int):(xC l).size=256:=by simp [xC]
theorem Tg (l:List Int) (i:Nat) (h:i<256):(xC l)[i]? =some (.bool (decide ((i:Int)∈l))):=by
 rw [Array.getElem?_eq_getElem (by simpa using h)];simp [xC]
theorem Tf (l:List Int) (k:Nat) (hk:k<256):(xC l).setIfInBounds k (.bool true)=xC (l++[(k:Int)]):=by
 apply Array.ext
 ·simp
 ·intro i h1 h2;simp at h1;rw [Array.getElem_setIfInBounds (by simpa using h1)];simp only [xC,Array.getElem_ofFn];by_cases h:k=i
  ·subst h;simp
  ·rw [if_neg h]
   congr 2
   simp only [List.mem_append,List.mem_singleton,eq_iff_iff];constructor
   ·exact fun h=>.inl h
   ·rintro (h1 | h1)
    ·exact h1
    ·exact absurd h1 (by omega)
theorem nU (h:mv x=true):∃k:Nat,x=(k:Int)∧k<256:=by
 simp only [mv,Bool.and_eq_true,decide_eq_true_eq] at h;exact ⟨x.toNat,by omega,by omega⟩
/- Marks lie in a block. -/
variable {w w':World} {B C:Nat} {t:TypeId} {l:List Int} {cs:Array Value}
def dN (w:World) (B:Nat) (t:TypeId) (l:List Int):Prop:=w.heap[B]? =some (.cells (xC l) t (0,0))
theorem dN.lt (h:dN w B t l):B<w.heap.size:=(Array.getElem?_eq_some_iff.1 h).1
theorem dN.below {n:Nat} (h:dN w B t l) (hb:Below n w w') (hn:B<n):dN w' B t l:=(hb.block B hn).trans h
theorem dN.later (h:dN w B t l) (hb:Below w.heap.size w w'):dN w' B t l:=h.below hb h.lt
theorem dN.new (w:World) (t:TypeId) (l:List Int):dN (w.alloc (.cells (xC l) t)) w.heap.size t l:=heap_alloc_last w _
theorem dN.cell (h:dN w B t l) (k:Nat) (hk:k<256):w.cell? ⟨B,k,none⟩=some (.bool (decide ((k:Int)∈l))):=(cell_of_row w B _ _ _ _ h).trans (Tg l k hk)
theorem ax (h:w.heap[B]? =some (.cells cs t (0,0))) (k:Nat):w.frozen? ⟨B,k,none⟩=false:=by
 simp [World.frozen?,h]
theorem aO (h:w.heap[B]? =some (.cells cs t (0,0))) (k:Nat) (v:Value):(w.setCell ⟨B,k,none⟩ v).heap[B]? =some (.cells (cs.setIfInBounds k v) t (0,0)):=by
 simp only [World.setCell,Array.getElem?_modify];rw [if_pos trivial,h];rfl
theorem au (h:C≠B) (k:Nat) (v:Value):(w.setCell ⟨B,k,none⟩ v).heap[C]? =w.heap[C]? :=by
 simp only [World.setCell,Array.getElem?_modify];rw [if_neg (fun e=>h e.symm)]
theorem dN.set (h:dN w B t l) (k:Nat) (hk:k<256):dN (w.setCell ⟨B,k,none⟩ (.bool true)) B t (l++[(k:Int)]):=by
 have:=aO h k (.bool true);rw [Tf l k hk] at this;exact this
theorem bg.other {f:Nat→En} (h:bg w C f) (hne:C≠B) (k:Nat) (v:Value):bg (w.setCell ⟨B,k,none⟩ v) C f:=(au hne k v).trans h
theorem Xn:zeroCells297=xC []:=by kernel_rfl
theorem JO (p:Value) (x:Int) (h:mv x=false) (w:World):Calls prog 195 #[p,.int .i64 x] w fun e w'=>e=.returned (.int .i64 14)∧w'=w:=by
 have hw:=gX x;rw [h] at hw;go_enter func195,ntmps195;go_wp2_with (go_at_call 247;refine (hw _).mono ?_;rintro r w' ⟨rfl,rfl⟩)
 go_ret;exact ⟨rfl,rfl⟩
theorem zB (hS:dN w B 297 l) (x:Int) (h:mv x=true) (h2:decide (x∈l)=true):Calls prog 195 #[.pointer (some ⟨B,0,none⟩),.int .i64 x] w fun e w'=>e=.returned (.int .i64 15)∧w'=w:=by
 have hw:=gX x;rw [h] at hw;obtain ⟨k,rfl,hk⟩:=nU h;have hc:=hS.cell k hk;rw [h2] at hc;have k1:(k:Int)<256:=by omega
 clear h2;go_enter func195,ntmps195;go_wp2_with (go_at_call 247;refine (hw _).mono ?_;rintro r w' ⟨rfl,rfl⟩)
 go_ret;exact ⟨rfl,rfl⟩
theorem RI (hS:dN w B 297 l) (k:Nat) (hk:k<256) (h:mv (k:Int)=true) (h2:decide ((k:Int)∈l)=false):Calls prog 195 #[.pointer (some ⟨B,0,none⟩),.int .i64 (k:Int)] w fun e w'=>e=.returned (.int .i64 0)∧w'=w.setCell ⟨B,k,none⟩ (.bool true):=by
 have hw:=gX (k:Int);rw [h] at hw;have hc:=hS.cell k hk;rw [h2] at hc;have hf:=ax hS k;have k1:(k:Int)<256:=by omega
 clear h2;go_enter func195,ntmps195;go_wp2_with (go_at_call 247;refine (hw _).mono ?_;rintro r w' ⟨rfl,rfl⟩)
 go_ret;exact ⟨rfl,rfl⟩
/- What stands while a batch is looked at: the roster and the batch, boxed. -/
variable {W w:World} {f:Nat→En} {aJ aL:Option Addr} {B cJ cL nJ nL:Nat}
structure FS (w W:World) (f:Nat→En) (aL aJ:Option Addr) (nL nJ cL cJ:Nat):Prop where
 ro:bg W w.heap.size f
 bt:W.heap[w.heap.size+1]? =some (.cells #[.slice aL nL cL,.slice aJ nJ cJ] 43 (0,0))
 aK:Below w.heap.size w W
theorem FS.later {w W W':World} {f:Nat→En} {aL aJ:Option Addr} {nL nJ cL cJ:Nat} (h:FS w W f aL aJ nL nJ cL cJ) (hb:Below W.heap.size W W'):FS w W' f aL aJ nL nJ cL cJ:=
 ⟨h.ro.later hb,(hb.block _ (Array.getElem?_eq_some_iff.1 h.bt).1).trans h.bt,h.aK.trans (hb.mono h.aK.size)⟩
theorem FS.set (h:FS w W f aL aJ nL nJ cL cJ) {M:Nat} (hM:w.heap.size+1<M) (k:Nat) (v:Value):FS w (W.setCell ⟨M,k,none⟩ v) f aL aJ nL nJ cL cJ:=
 ⟨h.ro.other (by omega) k v,(au (by omega) k v).trans h.bt,h.aK.setCell (p:=⟨M,k,none⟩) (by show w.heap.size≤M;omega) v⟩
theorem FS.cells (h:FS w W f aL aJ nL nJ cL cJ):W.cell? ⟨w.heap.size+1,0,none⟩=some (.slice aL nL cL)∧W.cell? ⟨w.heap.size+1,1,none⟩=some (.slice aJ nJ cJ):=
 ⟨cell_of_row W _ 0 _ _ _ h.bt,cell_of_row W _ 1 _ _ _ h.bt⟩
theorem FS.new (w:World) (f:Nat→En) (aL aJ:Option Addr) (nL nJ cL cJ:Nat):FS w ((w.alloc (.cells (aU f) 37)).alloc (.cells #[.slice aL nL cL,.slice aJ nJ cJ] 43)) f aL aJ nL nJ cL cJ:=by
 have b2:Below (w.alloc (.cells (aU f) 37)).heap.size (w.alloc (.cells (aU f) 37)) ((w.alloc (.cells (aU f) 37)).alloc (.cells #[.slice aL nL cL,.slice aJ nJ cJ] 43)):=(Below.refl _ _).alloc (Nat.le_refl _) _;refine ⟨(bg.new w f).later b2,?_,(dr w f).trans (b2.mono (by simp))⟩;have:=heap_alloc_last (w.alloc (.cells (aU f) 37)) (.cells #[.slice aL nL cL,.slice aJ nJ cJ] 43);rw [World.size_alloc] at this;exact this
theorem O4 (h:bg w B f):(Instr.loadAt 37 (.pointer (some ⟨B,0,none⟩))).run prog w=.ok (.agg (aU f)) w:=by
 simp only [Instr.loadAt,Instr.sureAddr,Sem.run_bind,Sem.run_pure,Result.andThen];exact run_loadVar_row w B _ _ _ _ _ h underlying37 rfl (by rw [fg];exact sA)
theorem y8 (h:bg w B f) {a:Act} {o:Oper} {x:Operand} (ho:o.op=.load 37 x) (hx:a.eval x=.pointer (some ⟨B,0,none⟩)):(execOp a.eval o).run prog w=.ok (.value (.agg (aU f))) w:=by
 have:=O4 h;simp [execOp,ho,hx,this,Sem.run_bind,Result.andThen]
set_option maxRecDepth 100000 in
theorem DC (f:Nat→En) (aL aJ:Option Addr) (cL cJ:Nat) (L J:List Int) (w:World) (lL:L.length<1152921504606846976) (lJ:J.length<1152921504606846976) (hL:bM w aL L) (hJ:bM w aJ J):
  Calls prog 138 #[.agg (aU f),.agg #[.slice aL L.length cL,.slice aJ J.length cJ]] w fun e w'=>e=.returned (.int .i64 (ft f L J))∧Below w.heap.size w w':=by
 have hF2:=FS.new w f aL aJ L.length J.length cL cJ;go_enter func138,ntmps138;go_upto_region 1 with (fail)
 generalize (w.alloc (.cells (aU f) 37)).alloc (.cells #[.slice aL L.length cL,.slice aJ J.length cJ] 43)=w2 at *;refine wp_region_lit ?_;refine iV hF2.ro rfl _ rfl rfl ?_;have dH:=fH f w2;go_wp2_with fail
 refine dH.mono ?_;rintro r w3 ⟨rfl,hb3⟩;have UG:=hF2.later hb3;clear dH hb3 hF2
 cases dH:lW f with
 | false=>
  rw [qX dH];go_wp2_with fail
  go_ret;exact ⟨aj (by rw [I2 L J dH]),UG.aK⟩
 | true=>
  rw [qW dH];go_upto_region 5 with (fail)
  rw [Xn];have hM:w.heap.size+1<w3.heap.size:=(Array.getElem?_eq_some_iff.1 UG.bt).1;have hb4:Below w3.heap.size w3 (w3.alloc (.cells (xC []) 297)):=(Below.refl _ w3).alloc (Nat.le_refl _) _;have Dr:=dN.new w3 297 [];have Y7:=UG.later hb4;generalize w3.alloc (.cells (xC []) 297)=w4 at *;generalize w3.heap.size=M at *;obtain ⟨cl,cj⟩:=Y7.cells;have R2:Hid (FS w w4 f aL aJ L.length J.length cL cJ):=Y7;have JS:Hid (dN w4 M 297 []):=Dr;clear hb4 UG Y7 Dr;obtain ⟨c,hc⟩:∃c,aU f=c:=⟨_,rfl⟩;rw [hc];clear hc;go_wp2_with fail
  go_loopw [21] (fun i wx=>∃k:Nat,k≤L.length∧i=.int .i64 (k:Int)∧FS w wx f aL aJ L.length J.length cL cJ∧dN wx M 297 ([]++L.take k)∧gg f true [] L=gg f true ([]++L.take k) (L.drop k)) (fun i _=>L.length - (intOf i).toNat)
  case atStart=>exact ⟨0,by omega,rfl,R2.out,by simpa using JS.out,by simp⟩
  case round=>
   obtain ⟨k,hk,rfl,IU,F8,heq⟩:=hrel;have HF:Hid (FS w wr f aL aJ L.length J.length cL cJ):=IU;have HN:Hid (dN wr M 297 ([]++L.take k)):=F8;have HQ:Hid (gg f true [] L=gg f true ([]++L.take k) (L.drop k)):=heq;clear IU F8 heq R2 JS;by_cases ki:k<L.length
   ·have i1:(0:Int)≤(k:Int):=by omega
    have i2:(k:Int)<(L.length:Int):=by omega
    obtain ⟨b,o,oy,hcell⟩:=(hL.later HF.out.aK) k ki;have HS:Hid (gg f true [] L=if er f true ([]++L.take k) (L.getD k 0)=0 then gg f true ([]++L.take (k+1)) (L.drop (k+1)) else er f true ([]++L.take k) (L.getD k 0)):=by rw [←uO f true [] L ki];exact HQ.out
    have HT:Hid (L.take (k+1)=L.take k++[L.getD k 0]):=jg ki;obtain ⟨x,hx⟩:∃x,L.getD k 0=x:=⟨_,rfl⟩;rw [hx] at hcell HS HT;obtain ⟨pr,F9⟩:∃pr,[]++L.take k=pr:=⟨_,rfl⟩;rw [F9] at HS HN;have Es:Hid (er f true pr x=if mv x then (if decide (x∈pr) then 15 else if true then (if on f x then 0 else 16) else (if on f x then 17 else 0)) else 14):=rfl;have Bz:Hid ([]++L.take k=pr):=F9;clear hx F9 HQ;subst oy
    cases hw:mv x with
    | false=>
     have ha:=JO (.pointer (some ⟨M,0,none⟩)) x hw;go_wp2_with (go_at_call 195;refine (ha _).mono ?_;rintro r w5 ⟨rfl,rfl⟩)
     go_ret;have he:er f true pr x=14:=by rw [Es.out,hw];rfl
     exact ⟨aj (by rw [uM J dH (by rw [HS.out,he];simp),HS.out,he];rfl),HF.out.aK⟩
    | true=>
     cases hm:decide (x∈pr) with
     | true=>
      have ha:=zB HN.out x hw hm;have HM:Hid (decide (x∈pr)=true):=hm;clear hm;go_wp2_with (go_at_call 195;refine ha.mono ?_;rintro r w5 ⟨rfl,rfl⟩)
      go_ret;have he:er f true pr x=15:=by rw [Es.out,hw,HM.out];rfl
      exact ⟨aj (by rw [uM J dH (by rw [HS.out,he];simp),HS.out,he];rfl),HF.out.aK⟩
     | false=>
      obtain ⟨xn,rfl,Pm⟩:=nU hw;have ha:=RI HN.out xn Pm hw hm;have Lj:Hid (decide ((xn:Int)∈pr)=false):=hm;have HF5:Hid (FS w (wr.setCell ⟨M,xn,none⟩ (.bool true)) f (some ⟨b,o,none⟩) aJ L.length J.length cL cJ):=HF.out.set hM xn _;have HN5:Hid (dN (wr.setCell ⟨M,xn,none⟩ (.bool true)) M 297 (pr++[(xn:Int)])):=HN.out.set xn Pm;clear hm;go_upto_region 11 with (go_at_call 195;refine ha.mono ?_;rintro r w5 ⟨rfl,rfl⟩)
      generalize wr.setCell ⟨M,xn,none⟩ (.bool true)=w5 at *;refine wp_region_lit ?_;refine iV HF5.out.ro rfl _ rfl rfl ?_;have tG:=wX f (xn:Int) w5;go_wp2_with fail
      refine tG.mono ?_;rintro r w6 ⟨rfl,dS⟩;have R3:Hid (FS w w6 f (some ⟨b,o,none⟩) aJ L.length J.length cL cJ):=HF5.out.later dS;have RQ:Hid (dN w6 M 297 (pr++[(xn:Int)])):=HN5.out.later dS;clear tG dS ha;have iF:=Ot f (xn:Int);have Xa:Hid (on f (xn:Int)= !decide (fC f (xn:Int)=-1)):=iF;clear iF;by_cases Lk:fC f (xn:Int)=-1
      ·have q1:(fC f (xn:Int)== -1)=true:=by simp [Lk]
       have HFD:Hid (fC f (xn:Int)=-1):=Lk;clear Lk;generalize fC f (xn:Int)=fi at *;go_wp2_with fail
       go_ret;have he:er f true pr (xn:Int)=16:=by rw [Es.out,hw,Lj.out,Xa.out,decide_eq_true HFD.out];rfl
       exact ⟨aj (by rw [uM J dH (by rw [HS.out,he];simp),HS.out,he];rfl),R3.out.aK⟩
      ·have q1:(fC f (xn:Int)== -1)=false:=by simp [Lk]
       have HFD:Hid (¬fC f (xn:Int)=-1):=Lk;clear Lk;generalize fC f (xn:Int)=fi at *;go_wp2_with fail
       go_roundw
       case rel=>
        have he:er f true pr (xn:Int)=0:=by rw [Es.out,hw,Lj.out,Xa.out,decide_eq_false HFD.out];rfl
        refine ⟨k+1,by omega,by go_num,R3.out,?_,?_⟩
        ·rw [HT.out,←List.append_assoc,Bz.out];exact RQ.out
        ·rw [HS.out,he];rfl
       case measure=>simp [intOf];omega
   ·obtain rfl:k=L.length:=by omega
    have IY:decide ((L.length:Int)<(L.length:Int))=false:=by simp
    have HZ:Hid (gg f true [] L=0):=by show gg f true [] L=0;rw [HQ.out];exact A3 f true [] L
    have R2:Hid (FS w wr f aL aJ L.length J.length cL cJ):=HF.out;have JS:Hid (dN wr M 297 L):=by have h:=HN.out;rw [List.take_length,List.nil_append] at h;exact h
    obtain ⟨cl,cj⟩:=HF.out.cells;clear HF HN HQ hk ki;go_wp2_with fail
    go_loopw [38] (fun i wx=>∃k:Nat,k≤J.length∧i=.int .i64 (k:Int)∧FS w wx f aL aJ L.length J.length cL cJ∧dN wx M 297 (L++J.take k)∧gg f false L J=gg f false (L++J.take k) (J.drop k)) (fun i _=>J.length - (intOf i).toNat)
    case atStart=>exact ⟨0,by omega,rfl,R2.out,by simpa using JS.out,by simp⟩
    case round=>
     obtain ⟨k,hk,rfl,IU,F8,heq⟩:=hrel;have HF:Hid (FS w wr f aL aJ L.length J.length cL cJ):=IU;have HN:Hid (dN wr M 297 (L++J.take k)):=F8;have HQ:Hid (gg f false L J=gg f false (L++J.take k) (J.drop k)):=heq;clear IU F8 heq R2 JS;by_cases ki:k<J.length
     ·have i1:(0:Int)≤(k:Int):=by omega
      have i2:(k:Int)<(J.length:Int):=by omega
      obtain ⟨b,o,oy,hcell⟩:=(hJ.later HF.out.aK) k ki;have HS:Hid (gg f false L J=if er f false (L++J.take k) (J.getD k 0)=0 then gg f false (L++J.take (k+1)) (J.drop (k+1)) else er f false (L++J.take k) (J.getD k 0)):=by rw [←uO f false L J ki];exact HQ.out
      have HT:Hid (J.take (k+1)=J.take k++[J.getD k 0]):=jg ki;obtain ⟨x,hx⟩:∃x,J.getD k 0=x:=⟨_,rfl⟩;rw [hx] at hcell HS HT;obtain ⟨pr,F9⟩:∃pr,L++J.take k=pr:=⟨_,rfl⟩;rw [F9] at HS HN;have Es:Hid (er f false pr x=if mv x then (if decide (x∈pr) then 15 else if false then (if on f x then 0 else 16) else (if on f x then 17 else 0)) else 14):=rfl;have Bz:Hid (L++J.take k=pr):=F9;clear hx F9 HQ;subst oy
      cases hw:mv x with
      | false=>
       have ha:=JO (.pointer (some ⟨M,0,none⟩)) x hw;go_wp2_with (go_at_call 195;refine (ha _).mono ?_;rintro r w5 ⟨rfl,rfl⟩)
       go_ret;have he:er f false pr x=14:=by rw [Es.out,hw];rfl
       exact ⟨aj (by rw [uN dH HZ.out (by rw [HS.out,he];simp),HS.out,he];rfl),HF.out.aK⟩
      | true=>
       cases hm:decide (x∈pr) with
       | true=>
        have ha:=zB HN.out x hw hm;have HM:Hid (decide (x∈pr)=true):=hm;clear hm;go_wp2_with (go_at_call 195;refine ha.mono ?_;rintro r w5 ⟨rfl,rfl⟩)
        go_ret;have he:er f false pr x=15:=by rw [Es.out,hw,HM.out];rfl
        exact ⟨aj (by rw [uN dH HZ.out (by rw [HS.out,he];simp),HS.out,he];rfl),HF.out.aK⟩
       | false=>
        obtain ⟨xn,rfl,Pm⟩:=nU hw;have ha:=RI HN.out xn Pm hw hm;have Lj:Hid (decide ((xn:Int)∈pr)=false):=hm;have HF5:Hid (FS w (wr.setCell ⟨M,xn,none⟩ (.bool true)) f aL (some ⟨b,o,none⟩) L.length J.length cL cJ):=HF.out.set hM xn _;have HN5:Hid (dN (wr.setCell ⟨M,xn,none⟩ (.bool true)) M 297 (pr++[(xn:Int)])):=HN.out.set xn Pm;clear hm;go_upto_region 20 with (go_at_call 195;refine ha.mono ?_;rintro r w5 ⟨rfl,rfl⟩)
        generalize wr.setCell ⟨M,xn,none⟩ (.bool true)=w5 at *;refine wp_region_lit ?_;refine iV HF5.out.ro rfl _ rfl rfl ?_;have tG:=wX f (xn:Int) w5;go_wp2_with fail
        refine tG.mono ?_;rintro r w6 ⟨rfl,dS⟩;have R3:Hid (FS w w6 f aL (some ⟨b,o,none⟩) L.length J.length cL cJ):=HF5.out.later dS;have RQ:Hid (dN w6 M 297 (pr++[(xn:Int)])):=HN5.out.later dS;clear tG dS ha;have iF:=Ot f (xn:Int);have Xa:Hid (on f (xn:Int)= !decide (fC f (xn:Int)=-1)):=iF;clear iF;by_cases Lk:fC f (xn:Int)=-1
        ·have q1:(fC f (xn:Int)== -1)=true:=by simp [Lk]
         have HFD:Hid (fC f (xn:Int)=-1):=Lk;clear Lk;generalize fC f (xn:Int)=fi at *;go_wp2_with fail
         go_roundw
         case rel=>
          have he:er f false pr (xn:Int)=0:=by rw [Es.out,hw,Lj.out,Xa.out,decide_eq_true HFD.out];rfl
          refine ⟨k+1,by omega,by go_num,R3.out,?_,?_⟩
          ·rw [HT.out,←List.append_assoc,Bz.out];exact RQ.out
          ·rw [HS.out,he];rfl
         case measure=>simp [intOf];omega
        ·have q1:(fC f (xn:Int)== -1)=false:=by simp [Lk]
         have HFD:Hid (¬fC f (xn:Int)=-1):=Lk;clear Lk;generalize fC f (xn:Int)=fi at *;go_wp2_with fail
         go_ret;have he:er f false pr (xn:Int)=17:=by rw [Es.out,hw,Lj.out,Xa.out,decide_eq_false HFD.out];rfl
         exact ⟨aj (by rw [uN dH HZ.out (by rw [HS.out,he];simp),HS.out,he];rfl),R3.out.aK⟩
     ·obtain rfl:k=J.length:=by omega
      have IY:decide ((J.length:Int)<(J.length:Int))=false:=by simp
      have HZ2:Hid (gg f false L J=0):=by show gg f false L J=0;rw [HQ.out];exact A3 f false L J
      have zF:Hid ((bl (nt (tk f))).length=64 - cnt f):=QX f;have Hd:Hid (cnt f≤64):=sI f;have aa7:bits BinOp.xor IntKind.u64 (if IntKind.u64.signed=true then -1 else IntKind.u64.max) ((tk f:Nat):Int)=((nt (tk f):Nat):Int):=by rw [if_neg (by decide)];exact uG _ (fF f)
      have aa6:=uG _ (fF f);have jo:=rN f;have bQ:=zu (nt (tk f)) (qj _);obtain ⟨C,hC⟩:∃C,(bl (nt (tk f))).length=C:=⟨_,rfl⟩;rw [hC] at bQ zF;clear hC;generalize nt (tk f)=nq at *;generalize tk f=q at *;go_upto_region 23 with (fail)
      obtain ⟨NL,oL⟩:∃NL,L.length=NL:=⟨_,rfl⟩;obtain ⟨NJ,pK⟩:∃NJ,J.length=NJ:=⟨_,rfl⟩;have HFq:Hid (FS w wr f aL aJ NL NJ cL cJ):=by have h:=HF.out;rw [oL,pK] at h;exact h
      have pZ:Hid (L.length=NL):=oL;have lu:Hid (J.length=NJ):=pK;rw [oL] at lL;rw [pK] at lJ;rw [oL,pK];clear oL pK hk ki HF HN HQ IY;have hwr:IntKind.i64.wrap ((C:Int)+(NL:Int))=(C:Int)+(NL:Int):=bC _ (by omega) (by have:=zF.out;omega);have dm:FS w wr.drew f aL aJ NL NJ cL cJ:=HFq.out.later ⟨rfl,rfl,rfl,Nat.le_refl _,fun _ _=>rfl⟩;refine wp_region_held_drew (S:=fun W=>FS w W f aL aJ NL NJ cL cJ) (by kernel_rfl) dm (fun hHeld=>?_);refine aH 0 (.pointer (some ⟨w.heap.size+1,1,none⟩)) rfl ?_;go_frame;refine dG 1 (.slice aJ NJ cJ) rfl (fun w hSw=>by obtain ⟨cl,cj⟩:=FS.cells hSw;clear hSw;go_simp) ?_;go_frame;refine aH 2 (.int .i64 (NJ:Int)) rfl ?_;go_frame;refine dG 3 (.agg (aU f)) rfl (fun w hSw=>y8 (FS.ro hSw) rfl rfl) ?_;go_frame;refine aH 7 (.pointer (some ⟨w.heap.size+1,0,none⟩)) rfl ?_;go_frame;refine dG 8 (.slice aL NL cL) rfl (fun w hSw=>by obtain ⟨cl,cj⟩:=FS.cells hSw;clear hSw;go_simp) ?_;go_frame;refine aH 9 (.int .i64 (NL:Int)) rfl ?_;go_frame;refine dh 4 rfl fun K hK=>?_;go_simp
      refine (jo _).mono ?_;rintro e w' ⟨rfl,iK⟩;go_wp2_with fail
      refine hK.out _ _ (FS.later hHeld iK) (fun aD=>?_);clear iK hHeld;clear hK K;try go_frame
      refine aH 5 (.int .u64 (nq:Int)) rfl ?_;go_frame;refine dh 6 rfl fun K hK=>?_;go_simp
      refine (bQ _).mono ?_;rintro e w' ⟨rfl,rfl⟩;go_wp2_with fail
      refine hK.out _ _ aD (fun aN=>?_);clear aD;clear hK K;try go_frame
      refine aH 10 (.int .i64 ((C:Int)+(NL:Int))) rfl ?_;go_frame;refine aH 11 (.bool (decide ((C:Int)+(NL:Int)<(NJ:Int)))) rfl ?_;go_frame;refine wpAnyH_done (by kernel_rfl) ?_ _;by_cases YO:(C:Int)+(NL:Int)<(NJ:Int)
      ·have hd:decide ((C:Int)+(NL:Int)<(NJ:Int))=true:=by simp [YO]
       rw [hd];go_wp2_with fail
       go_ret;exact ⟨aj (by rw [qN dH HZ.out HZ2.out,if_pos (by rw [pZ.out,lu.out];have:=zF.out;omega)]),aN.aK⟩
      ·have hd:decide ((C:Int)+(NL:Int)<(NJ:Int))=false:=by simp;omega
       rw [hd];go_wp2_with fail
       go_ret;exact ⟨aj (by rw [qN dH HZ.out HZ2.out,if_neg (by rw [pZ.out,lu.out];have:=zF.out;have:=Hd.out;omega)]),aN.aK⟩
end Go.Proofs.YtanaapfobpgibaaGreatDoor.Rs
