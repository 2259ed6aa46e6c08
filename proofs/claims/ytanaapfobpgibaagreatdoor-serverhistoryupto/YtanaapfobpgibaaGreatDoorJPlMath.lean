/- PlMath, PlMath2, joined. -/
import Derived.Test.YtanaapfobpgibaaGreatDoorJRtE
import Derived.Test.YtanaapfobpgibaaGreatDoorJRsL
import Derived.Test.YtanaapfobpgibaaGreatDoorJTrC
namespace Go.Proofs.YtanaapfobpgibaaGreatDoor
open Rt (Ky zK bF eH kE Ez Ey cu cd l9 kI R_ VL wV gd Gd)
open Rs (En zE aU cN tk fC lW ft evs eA nN nO fU mo pX xD ud b6 w_ xP um on cnt put sl)
open Sh (bc sj km hasB eV ue)
set_option linter.unusedVariables false
set_option maxRecDepth 4000
set_option linter.unusedSimpArgs false
/- A mask out of marks. -/
variable {f:Nat→En} {J L:List Int} {t:Tr}
def ri (p:Nat→Bool):Nat→Nat
 | 0=>0
 | n+1=>ri p n+if p n then 2^n else 0
theorem Ax (p:Nat→Bool):∀n,ri p n<2^n
 | 0=>by simp [ri]
 | n+1=>by
  have:=Ax p n;simp only [ri,Nat.pow_succ];split <;> omega
theorem Iu (p:Nat→Bool) (i:Nat):∀n,(ri p n).testBit i=(decide (i<n)&&p i)
 | 0=>by simp [ri]
 | n+1=>by
  have hl:=Ax p n;have ih:=Iu p i n;unfold ri
  cases hp:p n with
  | false=>
   rw [if_neg (by simp),Nat.add_zero,ih];by_cases h:i=n
   ·subst h;simp [hp]
   ·have:decide (i<n+1)=decide (i<n):=by simp;omega
    rw [this]
  | true=>
   rw [if_pos rfl,Nat.add_comm];rcases Nat.lt_trichotomy i n with h | h | h
   ·rw [Nat.testBit_two_pow_add_gt h,ih];have:i<n+1:=by omega
    simp [h,this]
   ·subst h;rw [Nat.testBit_two_pow_add_eq,Nat.testBit_lt_two_pow hl];simp [hp]
   ·rw [Nat.testBit_lt_two_pow (Nat.lt_of_lt_of_le (show 2^n+ri p n<2^(n+1) by rw [Nat.pow_succ];omega) (Nat.pow_le_pow_right (by omega) h))];have:¬i<n+1:=by omega
    simp [this]
theorem yY {p q:Nat→Bool}:∀n,(∀i,i<n→p i=q i)→ri p n=ri q n
 | 0,_=>rfl
 | n+1,h=>by rw [ri,ri,yY n fun i hi=>h i (by omega),h n (by omega)]
/- The replaced nodes: those above the seats' leaves. -/
def mz (l:List (Int×Int)) (v:Nat):Bool:=l.any fun p=>bc v (ue p.2)
def rp (l:List (Int×Int)):Nat:=ri (mz l) 21
theorem yC (l:List (Int×Int)):rp l<2097152:=Ax (mz l) 21
/- The seats' slots as a word. -/
def Sa (s:Nat) (p:Int×Int):Nat:=if sl p.2 then put s p.2.toNat else s
def sw (l:List (Int×Int)):Nat:=l.foldl Sa 0
theorem S_ (l:List (Int×Int)) (p:Int×Int):sw (l++[p])=Sa (sw l) p:=by simp [sw]
theorem XH {s:Nat} (hs:s<18446744073709551616) (p:Int×Int):Sa s p<18446744073709551616:=by
 unfold Sa
 cases h:sl p.2 with
 | false=>exact hs
 | true=>
  obtain ⟨k,hk,h2⟩:=Rs.rP h;rw [if_pos rfl,hk,Int.toNat_natCast];exact Rs.pD hs h2
theorem Ja:∀(l:List (Int×Int)) (s:Nat),s<18446744073709551616→l.foldl Sa s<18446744073709551616
 | [],s,h=>h
 | p::r,s,h=>Ja r _ (XH h p)
theorem VP (l:List (Int×Int)):sw l<18446744073709551616:=Ja l 0 (by omega)
theorem DA (i:Nat):∀(l:List (Int×Int)) (s:Nat),(l.foldl Sa s).testBit i=(s.testBit i||l.any fun p=>sl p.2&&decide (p.2=(i:Int)))
 | [],s=>by simp
 | p::r,s=>by
  rw [List.foldl_cons,DA i r,List.any_cons]
  have:(Sa s p).testBit i=(s.testBit i||(sl p.2&&decide (p.2=(i:Int)))):=by
   unfold Sa
   cases h:sl p.2 with
   | false=>simp
   | true=>
    obtain ⟨k,hk,h2⟩:=Rs.rP h;rw [if_pos rfl,hk,Int.toNat_natCast,Rs.iU,Bool.or_comm];by_cases e:k=i
    ·subst e;simp
    ·rw [decide_eq_false e,decide_eq_false (show ¬((k:Int)=(i:Int)) by omega)];simp
  rw [this,Bool.or_assoc]
theorem M3 (l:List (Int×Int)) (i:Nat):(sw l).testBit i=l.any fun p=>sl p.2&&decide (p.2=(i:Int)):=by
 unfold sw;rw [DA];simp
theorem Uu (l:List (Int×Int)) (v:Nat):km ((sw l:Nat):Int) v 64=mz l v:=by
 rw [Bool.eq_iff_iff,Sh.om];unfold mz;rw [List.any_eq_true];constructor
 ·rintro ⟨s,hs,h1,h2⟩;rw [Sh.m9,M3,List.any_eq_true] at h1;obtain ⟨p,hp,hq⟩:=h1;rw [Bool.and_eq_true] at hq;refine ⟨p,hp,?_⟩;rw [of_decide_eq_true hq.2,Sh.kf (by omega) (by omega)];exact h2
 ·rintro ⟨p,hp,h⟩
  cases hs:sl p.2 with
  | false=>
   rw [Sh.wD (Rs.Nd hs),Sh.nH (Sh.jy (by omega))] at h;cases h
  | true=>
   obtain ⟨k,hk,h2⟩:=Rs.rP hs;refine ⟨k,h2,?_,?_⟩
   ·rw [Sh.m9,M3,List.any_eq_true];exact ⟨p,hp,by rw [hs,hk];simp⟩
   ·rw [hk,Sh.kf (by omega) (by omega)] at h;exact h
theorem JP (X:Int):∀n,eV X n=((ri (fun v=>km X v 64) n:Nat):Int)
 | 0=>rfl
 | n+1=>by
  rw [eV,ri,JP X n];cases km X n 64 <;> simp
theorem Z0 (l:List (Int×Int)):eV ((sw l:Nat):Int) 21=((rp l:Nat):Int):=by
 rw [JP];unfold rp;rw [yY 21 fun i _=>Uu l i]
/- The left seats are where the leavers were. -/
theorem Jl:∀{L:List Int} {f:Nat→En},(∀k,k<L.length→L.getD k 0∉L.take k)→eA f L=L.map fun x=>(x,fC f x)
 | [],f,_=>rfl
 | x::r,f,h=>by
  have hr:∀k,k<r.length→r.getD k 0∉r.take k:=fun k hk hm=>by
   have:=h (k+1) (by simpa using hk);rw [List.getD_cons_succ,List.take_succ_cons] at this;exact this (List.mem_cons_of_mem _ hm)
  have hx:∀y∈r,y≠x:=fun y hy e=>by
   obtain ⟨k,hk,he⟩:=List.mem_iff_getElem.1 hy;have:=h (k+1) (by simpa using hk);rw [List.getD_cons_succ,List.take_succ_cons] at this;refine this (List.mem_cons.2 (.inl ?_));rw [List.getD_eq_getElem?_getD,List.getElem?_eq_getElem hk,Option.getD_some,he,e]
  rw [eA,Jl hr,List.map_cons]
  congr 1
  refine List.map_congr_left fun y hy=>?_
  rw [Rs.zm fun i _=>Rs.Rz (hx y hy) i]
theorem A5 (h:b6 f L J):eA f L=L.map fun x=>(x,fC f x):=Jl fun k hk=>(h.lv k hk).2.1
/- A step's error, the new tree. -/
def uD (t:Tr) (L:List Int):Nat:=rp (eA t.ro L)
def jQ (t:Tr) (L:List Int):Int:=t.fr+((cu (uD t L) 21:Nat):Int)
def b_ (t:Tr) (L J:List Int):Int:=if gu t then (if t.ep=200 then 19 else (if ft t.ro L J=0 then (if jQ t L+(J.length:Int)≤32768 then 0 else 3) else ft t.ro L J)) else 31
def nx (t:Tr) (L J:List Int):Tr:=⟨t.ep+1,jQ t L+(J.length:Int),kI t.ks (uD t L) t.fr,nN (evs t.ro L) (fU t.ro L J) J (t.ep+1) (jQ t L) J.length⟩
def kF (t:Tr) (L J:List Int):List (Int×Int):=nO (fU t.ro L J) J J.length
structure ku (t:Tr) (L J:List Int):Prop where
 ok:gu t=true
 rt:Right t
 ep:t.ep≤199
 fit:b6 t.ro L J
 nm:jQ t L+(J.length:Int)≤32768
theorem N8 (t:Tr) (L:List Int):uD t L<2097152:=yC _
theorem Aj (h:gu t=false):b_ t L J=31:=by unfold b_;rw [h];rfl
theorem r_ (h:gu t=true) (h2:t.ep=200):b_ t L J=19:=by unfold b_;rw [h,if_pos rfl,if_pos h2]
theorem Ai (h:gu t=true) (h2:¬t.ep=200) (h3:¬ft t.ro L J=0):b_ t L J=ft t.ro L J:=by unfold b_;rw [h,if_pos rfl,if_neg h2,if_neg h3]
theorem qg (h:gu t=true) (h2:¬t.ep=200) (h3:ft t.ro L J=0) (h4:¬jQ t L+(J.length:Int)≤32768):b_ t L J=3:=by unfold b_;rw [h,if_pos rfl,if_neg h2,if_pos h3,if_neg h4]
theorem X9 (h:gu t=true) (h2:¬t.ep=200) (h3:ft t.ro L J=0) (h4:jQ t L+(J.length:Int)≤32768):b_ t L J=0:=by unfold b_;rw [h,if_pos rfl,if_neg h2,if_pos h3,if_pos h4]
theorem E3 (h:gu t=true) (h2:¬t.ep=200) (h3:ft t.ro L J=0) (h4:jQ t L+(J.length:Int)≤32768):ku t L J:=
 ⟨h,di h,by have:=(di h).e1;omega,Rs.zl h3,h4⟩
theorem j9 (h:b_ t L J=0):ku t L J:=by
 cases h1:gu t with
 | false=>rw [Aj h1] at h;cases h
 | true=>
  by_cases h2:t.ep=200
  ·rw [r_ h1 h2] at h;cases h
  ·by_cases h3:ft t.ro L J=0
   ·by_cases h4:jQ t L+(J.length:Int)≤32768
    ·exact E3 h1 h2 h3 h4
    ·rw [qg h1 h2 h3 h4] at h;cases h
   ·rw [Ai h1 h2 h3] at h;exact absurd h h3
theorem ku.pl (h:ku t L J):b_ t L J=0:=X9 h.ok (by have:=h.ep;omega) (Rs.I3 h.fit) h.nm
/- The turn of a right tree's keys. -/
theorem EX (h:Right t) (he:t.ep≤199) {r:Nat} (hr:r<2097152):l9 t.ks r t.fr=if t.fr+((cu r 21:Nat):Int)≤32768 then 0 else 3:=by
 have hs:Rt.stuck t.ks r=false:=Rt.vp fun v hv=>by
  have:=(h.fk v hv).2;unfold Rt.Ew;rw [decide_eq_false (show ¬(254<(t.ks v).bp) by omega),Bool.and_false]
 by_cases h0:cu r 21=0
 ·rw [if_pos (by rw [h0];have:=h.f1;simp;omega)];exact Rt.vh h.ks hr (Rt.Dy h0) hs
 ·by_cases hc:t.fr+((cu r 21:Nat):Int)≤32768
  ·rw [if_pos hc];refine Rt.vh h.ks hr (Rt.Dz (by have:=h.f0;omega) (by omega) fun i hi=>?_) hs;have:=(h.fk i hi).1;unfold Rt.dW;rw [decide_eq_false (by omega),Bool.false_and]
  ·rw [if_neg hc];exact Rt.nX h.ks hr (Rt.I8 h0 (by omega))
theorem ku.turn (h:ku t L J):l9 t.ks (uD t L) t.fr=0:=by
 rw [EX h.rt h.ep (N8 t L),if_pos];have:=h.nm;unfold jQ at this;omega
/- The two halves of a batch. -/
theorem Qv (h:b6 f L J):b6 f L []:=⟨h.lW,h.lv,fun k hk=>by simp at hk,by simp⟩
theorem UT (h:lW f=true):lW (evs f L)=true:=Rs.Ba.2 (Rs.Ba.1 h).evs
theorem DD (h:b6 f L J):b6 (evs f L) [] J:=by
 refine ⟨UT h.lW,fun k hk=>by simp at hk,fun k hk=>?_,?_⟩
 ·obtain ⟨h1,h2,h3⟩:=h.jn k hk;refine ⟨h1,fun hm=>h2 (List.mem_append.2 (.inr (by simpa using hm))),?_⟩;rw [Rs.Ou fun hm=>h2 (List.mem_append.2 (.inl hm))];exact h3
 ·have h1:=h.cnt;have h2:=h.room;have h3:=Rs.sI f;simp;omega
theorem nh (h:Right t) (he:t.ep≤199):w_ (t.ep+1)=true:=by
 have:=h.e0;unfold Rs.w_;rw [decide_eq_true (by omega),decide_eq_true (by omega)];rfl
theorem I_ {f:Nat→En} {bs:Int} {n:Nat}:∀k,(∀i,i<k→(f i).aB<bs)→um f bs n k=true
 | 0,_=>rfl
 | k+1,h=>by
  unfold Rs.um;rw [I_ k fun i hi=>h i (by omega),decide_eq_false (by have:=h k (by omega);omega)];rfl
theorem I9 {bs:Int} {n:Nat} (h:∀i,i<64→(f i).aB<bs) (h0:1≤bs) (h1:bs≤32768):xP f bs n=decide (bs+(n:Int)≤32768):=by
 unfold Rs.xP;rw [I_ 64 h,decide_eq_true h0];by_cases hn:n=0
 ·subst hn;rw [decide_eq_true rfl,Bool.true_or,decide_eq_true (by simpa using h1)]
 ·rw [decide_eq_false hn,Bool.false_or,Bool.true_and,Bool.and_true];rw [Bool.eq_iff_iff,decide_eq_true_iff,decide_eq_true_iff];omega
theorem UU {b:Int} (h:∀i,i<64→(f i).aB<b) (h0:0<b) {i:Nat} (hi:i<64):(evs f L i).aB<b:=by
 rcases Rs.uR (L:=L) (f:=f) (i:=i) with e | e
 ·rw [e];exact h i hi
 ·rw [e];exact h0
theorem vS (t:Tr) (L:List Int):t.fr≤jQ t L:=by unfold jQ;omega
theorem aaS (h:Right t) (he:t.ep≤199) (hf:b6 t.ro L J):mo t.ro L [] (t.ep+1) t.fr=0∧pX t.ro L [] (t.ep+1) t.fr=evs t.ro L∧xD t.ro L [] (t.ep+1) t.fr=eA t.ro L:=by
 have h0:mo t.ro L [] (t.ep+1) t.fr=0:=Rs.wm (Qv hf) (nh h he) rfl;refine ⟨h0,?_,?_⟩
 ·unfold Rs.pX;rw [if_pos h0];rfl
 ·unfold Rs.xD;rw [if_pos h0]
theorem VR (h:Right t) (L:List Int):∀i,i<64→(t.ro i).aB<jQ t L:=fun i hi=>by
 have:=(h.fs i hi).1;have:=vS t L;omega
theorem V7 (h:Right t) (he:t.ep≤199) (hf:b6 t.ro L J) (hn:jQ t L≤32768):mo (evs t.ro L) [] J (t.ep+1) (jQ t L)=if jQ t L+(J.length:Int)≤32768 then 0 else 3:=by
 have hp:1≤jQ t L:=by have:=h.f0;have:=vS t L;omega
 have wO:=I9 (f:=evs t.ro L) (n:=J.length) (fun i hi=>UU (VR h L) (by omega) hi) hp hn;by_cases hc:jQ t L+(J.length:Int)≤32768
 ·rw [if_pos hc];exact Rs.wm (DD hf) (nh h he) (by rw [wO,decide_eq_true hc])
 ·rw [if_neg hc];unfold Rs.mo;rw [if_pos (Rs.I3 (DD hf)),nh h he,if_pos rfl,wO,decide_eq_false hc];rfl
theorem V6 (h:Right t) (he:t.ep≤199) (hf:b6 t.ro L J) (hn:jQ t L≤32768):mo t.ro L J (t.ep+1) (jQ t L)=if jQ t L+(J.length:Int)≤32768 then 0 else 3:=by
 have hp:1≤jQ t L:=by have:=h.f0;have:=vS t L;omega
 have wO:=I9 (f:=t.ro) (n:=J.length) (VR h L) hp hn;by_cases hc:jQ t L+(J.length:Int)≤32768
 ·rw [if_pos hc];exact Rs.wm hf (nh h he) (by rw [wO,decide_eq_true hc])
 ·rw [if_neg hc];unfold Rs.mo;rw [if_pos (Rs.I3 hf),nh h he,if_pos rfl,wO,decide_eq_false hc];rfl
theorem ku.le (h:ku t L J):jQ t L≤32768:=by have:=h.nm;omega
theorem ku.m2 (h:ku t L J):mo (evs t.ro L) [] J (t.ep+1) (jQ t L)=0:=by rw [V7 h.rt h.ep h.fit h.le,if_pos h.nm]
theorem ku.m3 (h:ku t L J):mo t.ro L J (t.ep+1) (jQ t L)=0:=by rw [V6 h.rt h.ep h.fit h.le,if_pos h.nm]
theorem ku.r2 (h:ku t L J):pX (evs t.ro L) [] J (t.ep+1) (jQ t L)=(nx t L J).ro:=by unfold Rs.pX;rw [if_pos h.m2];rfl
theorem ku.r3 (h:ku t L J):pX t.ro L J (t.ep+1) (jQ t L)=(nx t L J).ro:=by unfold Rs.pX;rw [if_pos h.m3];rfl
theorem ku.j2 (h:ku t L J):ud (evs t.ro L) [] J (t.ep+1) (jQ t L)=kF t L J:=by unfold Rs.ud;rw [if_pos h.m2];rfl
theorem ku.j3 (h:ku t L J):ud t.ro L J (t.ep+1) (jQ t L)=kF t L J:=by unfold Rs.ud;rw [if_pos h.m3];rfl
theorem ku.l3 (h:ku t L J):xD t.ro L J (t.ep+1) (jQ t L)=eA t.ro L:=by unfold Rs.xD;rw [if_pos h.m3]
/- What an entry behind the step is. -/
theorem Yh (h:ku t L J) (i:Nat):((nx t L J).ro i=evs t.ro L i∧(evs t.ro L i=t.ro i∨evs t.ro L i=zE))∨∃m,m<J.length∧i=(fU t.ro L J).getD m 0∧(nx t L J).ro i=⟨J.getD m 0,jQ t L+(m:Int),t.ep+1⟩:=by
 rcases Rs.sQ (evs t.ro L) (fU t.ro L J) J (t.ep+1) (jQ t L) i J.length with e | ⟨m,h1,h2,h3⟩
 ·exact .inl ⟨e,Rs.uR⟩
 ·exact .inr ⟨m,h1,h2,h3⟩
/- The new tree is right. -/
theorem Kw (h:Right t):gu t=true:=by
 unfold gu uq;rw [decide_eq_true h.e0,decide_eq_true h.e1,decide_eq_true h.f0,decide_eq_true h.f1,h.ks,h.ro]
 have h1:sH t=true:=gm fun v hv=>by
  unfold DB;rw [decide_eq_true (h.fk v hv).1,decide_eq_true (h.fk v hv).2];rfl
 have h2:qQ t=true:=gm fun s hs=>by
  obtain ⟨a,b,c⟩:=h.fs s hs;unfold Gu;rw [decide_eq_true a,decide_eq_true b];have:Pb t.ks (t.ro s).aB=false:=Bv fun v hv=>decide_eq_false (c v hv)
  rw [this];rfl
 rw [h1,h2];rfl
theorem ku.key (h:ku t L J) {v:Nat} (hv:v<21):((uD t L).testBit v=true∧(nx t L J).ks v=⟨t.fr+((cd (uD t L) (20 - v):Nat):Int),0⟩∧t.fr≤((nx t L J).ks v).aB∧((nx t L J).ks v).aB<jQ t L)∨((uD t L).testBit v=false∧(nx t L J).ks v=⟨(t.ks v).aB,(t.ks v).bp+1⟩):=by
 cases hb:(uD t L).testBit v with
 | true=>
  have e:(nx t L J).ks v=⟨t.fr+((cd (uD t L) (20 - v):Nat):Int),0⟩:=Rt.ly hb;refine .inl ⟨rfl,e,?_,?_⟩
  ·rw [e];dsimp only;omega
  ·rw [e];have:=Rt.Q7 hv hb;unfold jQ;dsimp only;omega
 | false=>exact .inr ⟨rfl,Rt.jZ hb⟩
theorem ku.right (h:ku t L J):Right (nx t L J):=by
 have hr:=h.rt;have BN:=vS t L;have hk:eH (nx t L J).ks=true:=Rt.J6 h.turn;have hro:lW (nx t L J).ro=true:=by rw [←h.r3];exact Rs.KZ h.m3
 have II:=h.nm;have e0:=hr.e0;have ep:=h.ep;have f0:=hr.f0;refine ⟨?_,?_,?_,II,hk,hro,fun v hv=>?_,fun s hs=>?_⟩
 ·show 0≤t.ep+1;omega
 ·show t.ep+1≤200;omega
 ·show 22≤jQ t L+(J.length:Int);omega
 ·show ((nx t L J).ks v).aB<jQ t L+(J.length:Int)∧((nx t L J).ks v).bp≤t.ep+1
  obtain ⟨a,b⟩:=hr.fk v hv;rcases h.key hv with ⟨_,e,_,lt⟩ | ⟨_,e⟩
  ·refine ⟨by omega,by rw [e];dsimp only;omega⟩
  ·rw [e];dsimp only;omega
 ·show ((nx t L J).ro s).aB<jQ t L+(J.length:Int)∧((nx t L J).ro s).dx≤t.ep+1∧∀v,v<21→((nx t L J).ks v).aB≠((nx t L J).ro s).aB
  obtain ⟨a,b,c⟩:=hr.fs s hs;rcases Yh h s with ⟨e,e2⟩ | ⟨m,hm,hs2,e⟩
  ·rw [e];rcases e2 with e2 | e2
   ·rw [e2];refine ⟨by omega,by omega,fun v hv=>?_⟩;rcases h.key hv with ⟨_,_,ge,_⟩ | ⟨_,e3⟩
    ·omega
    ·rw [e3];exact c v hv
   ·rw [e2];refine ⟨by show (0:Int)<_;omega,by show (0:Int)≤_;omega,fun v hv=>?_⟩;have:=((Rt.il.1 hk).1 v hv).1.1;show _≠(0:Int)
    omega
  ·rw [e];refine ⟨by dsimp only;omega,by dsimp only;omega,fun v hv=>?_⟩;dsimp only;rcases h.key hv with ⟨_,_,_,lt⟩ | ⟨_,e3⟩
   ·omega
   ·rw [e3];have:=(hr.fk v hv).1;dsimp only;omega
theorem ku.XF (h:ku t L J):gu (nx t L J)=true:=Kw h.right
open Rt (Ky zK bF eH kE Ez Ey cu cd l9 kI b1 gd Gd)
open Rs (En zE aU cN tk fC lW ft evs eA nN nO fU mo pX b6 on sl)
open Sh (bc ue)
/- An item; the key of an inner node or of a leaf. -/
variable {t:Tr} {j k s v:Nat} {J L:List Int} {p:Int×Int}
structure It where
 nd:Int
 fm:Int
 un:Ky
 ld:Ky
def AD (t:Tr) (v:Nat):Ky:=if v<21 then t.ks v else ⟨Ez (t.ro (v - 21)).aB (t.ro (v - 21)).dx t.ep,Ey (t.ro (v - 21)).aB (t.ro (v - 21)).dx t.ep⟩
def oJ (t:Tr) (v c:Nat):It:=⟨v,c,AD t c,AD t v⟩
theorem F0 (h:v<21):AD t v=t.ks v:=if_pos h
theorem CZ:AD t (21+s)=⟨Ez (t.ro s).aB (t.ro s).dx t.ep,Ey (t.ro s).aB (t.ro s).dx t.ep⟩:=by
 unfold AD;rw [if_neg (by omega),Nat.add_sub_cancel_left]
theorem AB (h:gu t=true) (hv:v<85) (h0:x8 t v=0):AD t v=x7 t v:=by
 rcases kn h hv h0 with ⟨h1,e⟩ | ⟨s,hs,e1,ht,e⟩
 ·rw [e,F0 h1]
 ·have:=(di h).leaf hs ht;subst e1;rw [e,CZ];unfold Rt.Ez Rt.Ey;rw [if_pos this,if_pos this]
/- The items of a replaced node, up to its child k; of the replaced nodes, j of them from above. -/
def nI (t:Tr) (v k:Nat):List It:=(List.range k).flatMap fun i=>if ug t.ro ((4 * v+1+i:Nat):Int) then [oJ t v (4 * v+1+i)] else []
def dI (t:Tr) (r j:Nat):List It:=(List.range j).flatMap fun m=>if r.testBit (20 - m) then nI t (20 - m) 4 else []
def jI (t:Tr) (r s k:Nat):List It:=(List.range k).flatMap fun i=>if r.testBit (pn s i) then [] else [oJ t (pn s i) (21+s)]
def jJ (t:Tr) (r:Nat) (js:List (Int×Int)):List It:=js.flatMap fun p=>jI t r p.2.toNat 3
def its (t:Tr) (r:Nat) (js:List (Int×Int)):List It:=dI t r 21++jJ t r js
theorem Ip (t:Tr) (v:Nat):nI t v 0=[]:=rfl
theorem FO (h:ug t.ro ((4 * v+1+k:Nat):Int)=true):nI t v (k+1)=nI t v k++[oJ t v (4 * v+1+k)]:=by
 unfold nI;rw [List.range_succ,List.flatMap_append,List.flatMap_singleton,h,if_pos rfl]
theorem OM (h:ug t.ro ((4 * v+1+k:Nat):Int)=false):nI t v (k+1)=nI t v k:=by
 unfold nI;rw [List.range_succ,List.flatMap_append,List.flatMap_singleton,h,if_neg (by simp),List.append_nil]
theorem GJ {r:Nat} (h:r.testBit (20 - j)=true):dI t r (j+1)=dI t r j++nI t (20 - j) 4:=by
 unfold dI;rw [List.range_succ,List.flatMap_append,List.flatMap_singleton,h,if_pos rfl]
theorem QU {r:Nat} (h:r.testBit (20 - j)=false):dI t r (j+1)=dI t r j:=by
 unfold dI;rw [List.range_succ,List.flatMap_append,List.flatMap_singleton,h,if_neg (by simp),List.append_nil]
theorem IE (t:Tr) (r s:Nat):jI t r s 0=[]:=rfl
theorem pH {r:Nat} (h:r.testBit (pn s k)=true):jI t r s (k+1)=jI t r s k:=by
 unfold jI;rw [List.range_succ,List.flatMap_append,List.flatMap_singleton,h,if_pos rfl,List.append_nil]
theorem wE {r:Nat} (h:r.testBit (pn s k)=false):jI t r s (k+1)=jI t r s k++[oJ t (pn s k) (21+s)]:=by
 unfold jI;rw [List.range_succ,List.flatMap_append,List.flatMap_singleton,h,if_neg (by simp)]
theorem ID (t:Tr) (r:Nat) (l:List (Int×Int)) (p:Int×Int):jJ t r (l++[p])=jJ t r l++jI t r p.2.toNat 3:=by
 unfold jJ;rw [List.flatMap_append,List.flatMap_singleton]
theorem O_ (t:Tr) (r:Nat):jJ t r []=[]:=rfl
theorem Aw (t:Tr) (v:Nat):∀k,(nI t v k).length≤k
 | 0=>by simp [nI]
 | k+1=>by
  have:=Aw t v k
  cases h:ug t.ro ((4 * v+1+k:Nat):Int) with
  | true=>rw [FO h,List.length_append];simp;omega
  | false=>rw [OM h];omega
theorem kD (t:Tr) (r:Nat):∀j,j≤21→(dI t r j).length≤4 * cd r j
 | 0,_=>by simp [dI]
 | j+1,hj=>by
  have ih:=kD t r j (by omega);have hn:=Aw t (20 - j) 4;simp only [Rt.cd];unfold Rt.b1
  cases h:r.testBit (20 - j) with
  | true=>rw [GJ h,List.length_append,if_pos rfl];omega
  | false=>rw [QU h,if_neg (by simp)];omega
theorem mV (t:Tr) (r s:Nat):∀k,(jI t r s k).length≤k
 | 0=>by simp [jI]
 | k+1=>by
  have:=mV t r s k
  cases h:r.testBit (pn s k) with
  | true=>rw [pH h];omega
  | false=>rw [wE h,List.length_append];simp;omega
theorem mO (t:Tr) (r:Nat):∀js:List (Int×Int),(jJ t r js).length≤3 * js.length
 | []=>by simp [jJ]
 | p::l=>by
  have ih:=mO t r l;have:=mV t r p.2.toNat 3;unfold jJ at *;rw [List.flatMap_cons,List.length_append,List.length_cons];omega
/- How many nodes are replaced. -/
def LL (p:Nat→Bool):Nat→Nat
 | 0=>0
 | n+1=>LL p n+if p n then 1 else 0
theorem QW (p:Nat→Bool):∀k,k≤21→cu (ri p 21) k=LL p k
 | 0,_=>rfl
 | k+1,h=>by
  rw [Rt.cu,LL,QW p k (by omega)];unfold Rt.b1;rw [Iu,decide_eq_true (by omega),Bool.true_and]
theorem Q0 (p q:Nat→Bool):∀n,LL (fun v=>p v||q v) n≤LL p n+LL q n
 | 0=>by simp [LL]
 | n+1=>by
  have:=Q0 p q n;simp only [LL];by_cases hp:p n=true <;> by_cases hq:q n=true
  ·rw [if_pos (by rw [hp];rfl),if_pos hp,if_pos hq];omega
  ·rw [if_pos (by rw [hp];rfl),if_pos hp,if_neg hq];omega
  ·rw [if_pos (by rw [hq,Bool.or_true]),if_neg hp,if_pos hq];omega
  ·rw [if_neg (by rw [Bool.not_eq_true] at hp hq;rw [hp,hq];simp),if_neg hp,if_neg hq];omega
theorem xb {p:Nat→Bool}:∀n,(∀i,i<n→p i=false)→LL p n=0
 | 0,_=>rfl
 | n+1,h=>by rw [LL,xb n fun i hi=>h i (by omega),h n (by omega)];rfl
theorem Vf:∀s:Fin 64,LL (fun v=>bc (v:Int) (21+(s.val:Int))) 21=3:=by decide+kernel
theorem Ve (x:Int):LL (fun v=>bc (v:Int) (ue x)) 21≤3:=by
 cases hs:sl x with
 | false=>
  rw [xb 21 fun i hi=>by rw [Sh.wD (Rs.Nd hs),Sh.nH (Sh.jy (by omega))]];omega
 | true=>
  obtain ⟨k,hk,h2⟩:=Rs.rP hs;rw [hk,Sh.kf (by omega) (by omega)];have:=Vf ⟨k,h2⟩;exact Nat.le_of_eq this
theorem QZ:∀l:List (Int×Int),LL (mz l) 21≤3 * l.length
 | []=>by rw [xb (p:=mz []) 21 fun i _=>rfl];omega
 | p::l=>by
  have ih:=QZ l;have h1:=Q0 (fun v=>bc (v:Int) (ue p.2)) (mz l) 21;have h2:=Ve p.2;have e:(mz (p::l))=fun v:Nat=>bc (v:Int) (ue p.2)||mz l v:=by funext v;unfold mz;rw [List.any_cons]
  rw [e,List.length_cons];omega
theorem abJ (l:List (Int×Int)):cu (rp l) 21≤3 * l.length:=by unfold rp;rw [QW _ _ (by omega)];exact QZ l
theorem T2 (t:Tr) (l js:List (Int×Int)):(its t (rp l) js).length≤12 * (l.length+js.length):=by
 have h1:=kD t (rp l) 21 (by omega);have h2:=mO t (rp l) js;have h3:=abJ l;rw [Rt.Bc] at h1;unfold its;rw [List.length_append];omega
/- Which items there are. -/
theorem OT {x:It}:x∈nI t v k↔∃i,i<k∧ug t.ro ((4 * v+1+i:Nat):Int)=true∧x=oJ t v (4 * v+1+i):=by
 unfold nI;rw [List.mem_flatMap];constructor
 ·rintro ⟨i,hi,hx⟩
  cases h:ug t.ro ((4 * v+1+i:Nat):Int) with
  | true=>rw [h,if_pos rfl] at hx;exact ⟨i,List.mem_range.1 hi,h,List.mem_singleton.1 hx⟩
  | false=>rw [h,if_neg (by simp)] at hx;cases hx
 ·rintro ⟨i,hi,h,rfl⟩;exact ⟨i,List.mem_range.2 hi,by rw [h,if_pos rfl];exact List.mem_singleton.2 rfl⟩
theorem OW {r:Nat} {x:It}:x∈dI t r 21↔∃v i,v<21∧i<4∧r.testBit v=true∧ug t.ro ((4 * v+1+i:Nat):Int)=true∧x=oJ t v (4 * v+1+i):=by
 unfold dI;rw [List.mem_flatMap];constructor
 ·rintro ⟨m,hm,hx⟩;have hm:=List.mem_range.1 hm
  cases h:r.testBit (20 - m) with
  | true=>
   rw [h,if_pos rfl] at hx;obtain ⟨i,h1,h2,h3⟩:=OT.1 hx;exact ⟨20 - m,i,by omega,h1,h,h2,h3⟩
  | false=>rw [h,if_neg (by simp)] at hx;cases hx
 ·rintro ⟨v,i,hv,hi,hb,hh,rfl⟩;refine ⟨20 - v,List.mem_range.2 (by omega),?_⟩;rw [show 20 - (20 - v)=v by omega,hb,if_pos rfl];exact OT.2 ⟨i,hi,hh,rfl⟩
theorem OV {r:Nat} {x:It}:x∈jI t r s 3↔∃i,i<3∧r.testBit (pn s i)=false∧x=oJ t (pn s i) (21+s):=by
 unfold jI;rw [List.mem_flatMap];constructor
 ·rintro ⟨i,hi,hx⟩
  cases h:r.testBit (pn s i) with
  | false=>rw [h,if_neg (by simp)] at hx;exact ⟨i,List.mem_range.1 hi,h,List.mem_singleton.1 hx⟩
  | true=>rw [h,if_pos rfl] at hx;cases hx
 ·rintro ⟨i,hi,h,rfl⟩;exact ⟨i,List.mem_range.2 hi,by rw [h,if_neg (by simp)];exact List.mem_singleton.2 rfl⟩
theorem OU {r:Nat} {js:List (Int×Int)} {x:It}:x∈jJ t r js↔∃p∈js,∃i,i<3∧r.testBit (pn p.2.toNat i)=false∧x=oJ t (pn p.2.toNat i) (21+p.2.toNat):=by
 unfold jJ;rw [List.mem_flatMap];constructor
 ·rintro ⟨p,hp,hx⟩;exact ⟨p,hp,OV.1 hx⟩
 ·rintro ⟨p,hp,hx⟩;exact ⟨p,hp,OV.2 hx⟩
/- The joined seats. -/
theorem Iw:p∈kF t L J↔∃m,m<J.length∧p=(J.getD m 0,(((fU t.ro L J).getD m 0:Nat):Int)):=by
 unfold kF;rw [List.mem_iff_getElem];constructor
 ·rintro ⟨m,hm,e⟩;have Lj:m<J.length:=by simpa using hm
  refine ⟨m,Lj,?_⟩;rw [←Rs.uY (fU t.ro L J) J J.length Lj,List.getD_eq_getElem?_getD,List.getElem?_eq_getElem hm,Option.getD_some,e]
 ·rintro ⟨m,hm,rfl⟩;refine ⟨m,by simpa using hm,?_⟩;have:=Rs.uY (fU t.ro L J) J J.length hm;rw [List.getD_eq_getElem?_getD,List.getElem?_eq_getElem (by simpa using hm),Option.getD_some] at this;exact this
theorem ku.joined (h:ku t L J) {m:Nat} (hm:m<J.length):(fU t.ro L J).getD m 0<64∧(nx t L J).ro ((fU t.ro L J).getD m 0)=⟨J.getD m 0,jQ t L+(m:Int),t.ep+1⟩∧cN (evs t.ro L ((fU t.ro L J).getD m 0))=false:=by
 have hv:=Rs.V5 h.m3;have ht:=Rs.Z3 (f:=t.ro) (L:=L) (J:=J) (m:=m) (by rw [hv.ok.aaU];omega);exact ⟨ht.1,Rs.JN hv (m:=m) J.length hm (Nat.le_refl _),ht.2⟩
theorem ku.seat (h:ku t L J) (hp:p∈kF t L J):∃s:Nat,s<64∧p.2=(s:Int)∧cN ((nx t L J).ro s)=true∧((nx t L J).ro s).dx=t.ep+1∧jQ t L≤((nx t L J).ro s).aB:=by
 obtain ⟨m,hm,e⟩:=Iw.1 hp;obtain ⟨h1,h2,_⟩:=h.joined hm;refine ⟨(fU t.ro L J).getD m 0,h1,by rw [e],?_,?_,?_⟩
 ·rw [h2];have:=h.rt.f0;have:=vS t L;simp [Rs.cN];omega
 ·rw [h2]
 ·rw [h2];dsimp only;omega
/- Nodes and paths. -/
theorem LO:∀v:Fin 21,∀i:Fin 4,bc (v.val:Int) ((4 * v.val+1+i.val:Nat):Int)=true∧∀u:Fin 85,bc ((4 * v.val+1+i.val:Nat):Int) (u.val:Int)=true→bc (v.val:Int) (u.val:Int)=true:=by decide+kernel
theorem Og:∀s:Fin 64,∀i:Fin 3,bc (pn s.val i.val:Int) (21+(s.val:Int))=true:=by decide+kernel
theorem Oe {i:Nat} (hs:s<64) (hi:i<3):bc (pn s i:Int) (21+(s:Int))=true:=Og ⟨s,hs⟩ ⟨i,hi⟩
theorem CX:∀s u:Fin 64,bc (21+(s.val:Int)) (21+(u.val:Int))=decide (s.val=u.val):=by decide+kernel
theorem K6 {u:Nat} (hs:s<64) (hu:u<64) (h:bc (21+(s:Int)) (21+(u:Int))=true):s=u:=by
 have:=CX ⟨s,hs⟩ ⟨u,hu⟩;rw [h] at this;exact of_decide_eq_true this.symm
theorem K5 (hs:s<64):bc (21+(s:Int)) (21+(s:Int))=true:=by
 rw [CX ⟨s,hs⟩ ⟨s,hs⟩];simp
/- The node below, on the path of a slot: the leaf, or the node ahead. -/
def aK (s i:Nat):Nat:=if i=0 then 21+s else pn s (i - 1)
theorem IM {r:Nat→En} {v:Int} (hs:s<64) (ht:cN (r s)=true) (h:bc v (21+(s:Int))=true):ug r v=true:=q9 hs (by rw [ht,h];rfl)
theorem PH {r:Nat→En} {v:Int} (h:ug r v=true):∃s,s<64∧cN (r s)=true∧bc v (21+(s:Int))=true:=by
 unfold ug at h;rw [List.any_eq_true] at h;obtain ⟨s,hs,h2⟩:=h;rw [Bool.and_eq_true] at h2;exact ⟨s,List.mem_range.1 hs,h2.1,h2.2⟩
/- A leaf below which somebody sits is taken. -/
theorem qD (h:gu t=true) {c:Nat} (hc:c<85) (hh:ug t.ro (c:Int)=true):x8 t (c:Int)=0:=by
 rcases Nat.lt_or_ge c 21 with h1 | h1
 ·exact jm h (by omega) (by omega)
 ·obtain ⟨s,hs,ht,hb⟩:=PH hh;obtain ⟨u,rfl⟩:∃u,c=21+u:=⟨c - 21,by omega⟩;have hb':bc (21+(u:Int)) (21+(s:Int))=true:=by have:=hb;push_cast at this;exact this
  have e:=K6 (by omega) hs hb';subst e;have:=qu h (s:=u) (by omega);rw [show ((21+u:Nat):Int)=21+(u:Int) by push_cast;rfl,this];exact (di h).leaf hs ht
/- The items of a step: under a key of a node that is held, the key of a node above it. -/
structure Itm (t:Tr) (v c:Nat):Prop where
 lv:v<21
 lc:c<85
 held:ug t.ro (c:Int)=true
 up:∀u:Nat,u<85→bc (c:Int) (u:Int)=true→bc (v:Int) (u:Int)=true
theorem TX:∀s:Fin 64,∀u:Fin 85,bc (21+(s.val:Int)) (u.val:Int)=true→(u.val:Int)=21+(s.val:Int):=by decide+kernel
theorem T3 (h:ku t L J) {x:It} (hx:x∈its (nx t L J) (uD t L) (kF t L J)):∃v c,x=oJ (nx t L J) v c∧Itm (nx t L J) v c:=by
 unfold its at hx;rcases List.mem_append.1 hx with hx | hx
 ·obtain ⟨v,i,hv,hi,_,hh,e⟩:=OW.1 hx;refine ⟨v,4 * v+1+i,e,hv,by omega,hh,fun u hu hb=>?_⟩;exact (LO ⟨v,hv⟩ ⟨i,hi⟩).2 ⟨u,hu⟩ hb
 ·obtain ⟨p,hp,i,hi,_,e⟩:=OU.1 hx;obtain ⟨s,hs,iJ,ht,_,_⟩:=h.seat hp;rw [iJ,Int.toNat_natCast] at e;have e2:((21+s:Nat):Int)=21+(s:Int):=by push_cast;rfl
  refine ⟨pn s i,21+s,e,sZ hs i,by omega,?_,fun u hu hb=>?_⟩
  ·rw [e2];exact IM hs ht (K5 hs)
  ·rw [e2] at hb;rw [TX ⟨s,hs⟩ ⟨u,hu⟩ hb];exact Oe hs hi
/- Old keys and new ones. -/
structure Kept (t u:Tr) (c:Nat):Prop where
 was:x8 t (c:Int)=0
 aB:(x7 u (c:Int)).aB=(x7 t (c:Int)).aB
 bp:(x7 u (c:Int)).bp=(x7 t (c:Int)).bp+1
theorem C4 (h:gu t=true) (hs:s<64) (ht:cN (t.ro s)=true):x8 t ((21+s:Nat):Int)=0∧x7 t ((21+s:Nat):Int)=⟨(t.ro s).aB,t.ep - (t.ro s).dx⟩:=by
 have e2:((21+s:Nat):Int)=21+(s:Int):=by push_cast;rfl
 have h0:x8 t ((21+s:Nat):Int)=0:=by rw [e2,qu h hs];exact (di h).leaf hs ht
 refine ⟨h0,?_⟩;unfold x7;rw [if_pos h0,if_neg (by omega),e2,show (21+(s:Int) - 21).toNat=s by omega]
/- The left seats. -/
theorem ku.left (h:ku t L J) (hp:p∈eA t.ro L):∃s:Nat,s<64∧p.2=(s:Int)∧cN (t.ro s)=true∧(t.ro s).who=p.1∧p.1∈L:=by
 rw [A5 h.fit] at hp;obtain ⟨x,hx,e⟩:=List.mem_map.1 hp;obtain ⟨k,hk,he⟩:=List.mem_iff_getElem.1 hx;have iF:=(h.fit.lv k hk).2.2;have ex:L.getD k 0=x:=by rw [List.getD_eq_getElem?_getD,List.getElem?_eq_getElem hk,Option.getD_some,he]
 rw [ex] at iF;obtain ⟨j,h1,h2,h3⟩:=Rs.Ik iF;obtain ⟨h4,h5⟩:=Rs.G4 h3;subst e;exact ⟨j,h2,h1,h4,h5,hx⟩
end Go.Proofs.YtanaapfobpgibaaGreatDoor
