/- PlMath, PlMath2, joined. -/
import Derived.Test.YtoimkngkcliinaaGreatDoorJTrMath
import Derived.Test.YtoimkngkcliinaaGreatDoorJRtB
import Derived.Test.YtoimkngkcliinaaGreatDoorJRsSm
import Derived.Test.YtoimkngkcliinaaGreatDoorJStMath
import Derived.Test.YtoimkngkcliinaaGreatDoorJTrC
namespace Go.Proofs.YtoimkngkcliinaaGreatDoor
open Rt (Ky zK kcs kchk lfE lfB lfS cu cd trE trK trA trN frk gd Gd)
open Rs (En zE rcs tkn tk fnd chk ft evs evl adm adl mvT mvE mvR mvL mvJ FitOk eok fre frA on cnt put sl)
open Sh (belB msk hitTo hasB abvTo lef)
set_option linter.unusedVariables false
set_option maxRecDepth 4000
set_option linter.unusedSimpArgs false
/- A mask out of marks. -/
def mkW (p:Nat→Bool):Nat→Nat
 | 0=>0
 | n+1=>mkW p n+if p n then 2^n else 0
theorem mkW_lt (p:Nat→Bool):∀n,mkW p n<2^n
 | 0=>by simp [mkW]
 | n+1=>by
  have:=mkW_lt p n;simp only [mkW,Nat.pow_succ];split <;> omega
theorem mkW_bit (p:Nat→Bool) (i:Nat):∀n,(mkW p n).testBit i=(decide (i<n)&&p i)
 | 0=>by simp [mkW]
 | n+1=>by
  have hl:=mkW_lt p n;have ih:=mkW_bit p i n;unfold mkW
  cases hp:p n with
  | false=>
   rw [if_neg (by simp),Nat.add_zero,ih];by_cases h:i=n
   ·subst h;simp [hp]
   ·have:decide (i<n+1)=decide (i<n):=by simp;omega
    rw [this]
  | true=>
   rw [if_pos rfl,Nat.add_comm];rcases Nat.lt_trichotomy i n with h | h | h
   ·rw [Nat.testBit_two_pow_add_gt h,ih];have:i<n+1:=by omega
    simp [h,this]
   ·subst h;rw [Nat.testBit_two_pow_add_eq,Nat.testBit_lt_two_pow hl];simp [hp]
   ·rw [Nat.testBit_lt_two_pow (Nat.lt_of_lt_of_le (show 2^n+mkW p n<2^(n+1) by rw [Nat.pow_succ];omega) (Nat.pow_le_pow_right (by omega) h))];have:¬i<n+1:=by omega
    simp [this]
theorem mkW_congr {p q:Nat→Bool}:∀n,(∀i,i<n→p i=q i)→mkW p n=mkW q n
 | 0,_=>rfl
 | n+1,h=>by rw [mkW,mkW,mkW_congr n fun i hi=>h i (by omega),h n (by omega)]
/- The replaced nodes: those above the seats' leaves. -/
def rpl (l:List (Int×Int)) (v:Nat):Bool:=l.any fun p=>belB v (lef p.2)
def rp (l:List (Int×Int)):Nat:=mkW (rpl l) 21
theorem rp_lt (l:List (Int×Int)):rp l<2097152:=mkW_lt (rpl l) 21
/- The seats' slots as a word. -/
def sw1 (s:Nat) (p:Int×Int):Nat:=if sl p.2 then put s p.2.toNat else s
def sw (l:List (Int×Int)):Nat:=l.foldl sw1 0
theorem sw_snoc (l:List (Int×Int)) (p:Int×Int):sw (l++[p])=sw1 (sw l) p:=by simp [sw]
theorem sw1_lt {s:Nat} (hs:s<18446744073709551616) (p:Int×Int):sw1 s p<18446744073709551616:=by
 unfold sw1
 cases h:sl p.2 with
 | false=>exact hs
 | true=>
  obtain ⟨k,hk,h2⟩:=Rs.sl_nat h;rw [if_pos rfl,hk,Int.toNat_natCast];exact Rs.put_lt hs h2
theorem fold_lt:∀(l:List (Int×Int)) (s:Nat),s<18446744073709551616→l.foldl sw1 s<18446744073709551616
 | [],s,h=>h
 | p::r,s,h=>fold_lt r _ (sw1_lt h p)
theorem sw_lt (l:List (Int×Int)):sw l<18446744073709551616:=fold_lt l 0 (by omega)
theorem fold_bit (i:Nat):∀(l:List (Int×Int)) (s:Nat),(l.foldl sw1 s).testBit i=(s.testBit i||l.any fun p=>sl p.2&&decide (p.2=(i:Int)))
 | [],s=>by simp
 | p::r,s=>by
  rw [List.foldl_cons,fold_bit i r,List.any_cons]
  have:(sw1 s p).testBit i=(s.testBit i||(sl p.2&&decide (p.2=(i:Int)))):=by
   unfold sw1
   cases h:sl p.2 with
   | false=>simp
   | true=>
    obtain ⟨k,hk,h2⟩:=Rs.sl_nat h;rw [if_pos rfl,hk,Int.toNat_natCast,Rs.put_bit,Bool.or_comm];by_cases e:k=i
    ·subst e;simp
    ·rw [decide_eq_false e,decide_eq_false (show ¬((k:Int)=(i:Int)) by omega)];simp
  rw [this,Bool.or_assoc]
theorem sw_bit (l:List (Int×Int)) (i:Nat):(sw l).testBit i=l.any fun p=>sl p.2&&decide (p.2=(i:Int)):=by
 unfold sw;rw [fold_bit];simp
theorem hit_rpl (l:List (Int×Int)) (v:Nat):hitTo ((sw l:Nat):Int) v 64=rpl l v:=by
 rw [Bool.eq_iff_iff,Sh.hitTo_iff];unfold rpl;rw [List.any_eq_true];constructor
 ·rintro ⟨s,hs,h1,h2⟩;rw [Sh.hasB_bit,sw_bit,List.any_eq_true] at h1;obtain ⟨p,hp,hq⟩:=h1;rw [Bool.and_eq_true] at hq;refine ⟨p,hp,?_⟩;rw [of_decide_eq_true hq.2,Sh.lef_yes (by omega) (by omega)];exact h2
 ·rintro ⟨p,hp,h⟩
  cases hs:sl p.2 with
  | false=>
   rw [Sh.lef_no (Rs.sl_not hs),Sh.belB_no' (Sh.nodeB_no (by omega))] at h;cases h
  | true=>
   obtain ⟨k,hk,h2⟩:=Rs.sl_nat hs;refine ⟨k,h2,?_,?_⟩
   ·rw [Sh.hasB_bit,sw_bit,List.any_eq_true];exact ⟨p,hp,by rw [hs,hk];simp⟩
   ·rw [hk,Sh.lef_yes (by omega) (by omega)] at h;exact h
theorem abv_mkW (X:Int):∀n,abvTo X n=((mkW (fun v=>hitTo X v 64) n:Nat):Int)
 | 0=>rfl
 | n+1=>by
  rw [abvTo,mkW,abv_mkW X n];cases hitTo X n 64 <;> simp
theorem abv_rp (l:List (Int×Int)):abvTo ((sw l:Nat):Int) 21=((rp l:Nat):Int):=by
 rw [abv_mkW];unfold rp;rw [mkW_congr 21 fun i _=>hit_rpl l i]
/- The left seats are where the leavers were. -/
theorem evl_map:∀{L:List Int} {f:Nat→En},(∀k,k<L.length→L.getD k 0∉L.take k)→evl f L=L.map fun x=>(x,fnd f x)
 | [],f,_=>rfl
 | x::r,f,h=>by
  have hr:∀k,k<r.length→r.getD k 0∉r.take k:=fun k hk hm=>by
   have:=h (k+1) (by simpa using hk);rw [List.getD_cons_succ,List.take_succ_cons] at this;exact this (List.mem_cons_of_mem _ hm)
  have hx:∀y∈r,y≠x:=fun y hy e=>by
   obtain ⟨k,hk,he⟩:=List.mem_iff_getElem.1 hy;have:=h (k+1) (by simpa using hk);rw [List.getD_cons_succ,List.take_succ_cons] at this;refine this (List.mem_cons.2 (.inl ?_));rw [List.getD_eq_getElem?_getD,List.getElem?_eq_getElem hk,Option.getD_some,he,e]
  rw [evl,evl_map hr,List.map_cons]
  congr 1
  refine List.map_congr_left fun y hy=>?_
  rw [Rs.fnd_congr fun i _=>Rs.at_ev1 (hx y hy) i]
theorem fit_evl {f:Nat→En} {L J:List Int} (h:FitOk f L J):evl f L=L.map fun x=>(x,fnd f x):=evl_map fun k hk=>(h.lv k hk).2.1
/- A step's error, the new tree. -/
def plR (t:Tr) (L:List Int):Nat:=rp (evl t.ro L)
def plF (t:Tr) (L:List Int):Int:=t.fr+((cu (plR t L) 21:Nat):Int)
def plE (t:Tr) (L J:List Int):Int:=if tck t then (if t.ep=200 then 19 else (if ft t.ro L J=0 then (if plF t L+(J.length:Int)≤32768 then 0 else 3) else ft t.ro L J)) else 31
def nx (t:Tr) (L J:List Int):Tr:=⟨t.ep+1,plF t L+(J.length:Int),trK t.ks (plR t L) t.fr,adm (evs t.ro L) (mvT t.ro L J) J (t.ep+1) (plF t L) J.length⟩
def jns (t:Tr) (L J:List Int):List (Int×Int):=adl (mvT t.ro L J) J J.length
structure Stp (t:Tr) (L J:List Int):Prop where
 ok:tck t=true
 rt:Right t
 ep:t.ep≤199
 fit:FitOk t.ro L J
 nm:plF t L+(J.length:Int)≤32768
theorem plR_lt (t:Tr) (L:List Int):plR t L<2097152:=rp_lt _
theorem plE_bad {t:Tr} {L J:List Int} (h:tck t=false):plE t L J=31:=by unfold plE;rw [h];rfl
theorem plE_spent {t:Tr} {L J:List Int} (h:tck t=true) (h2:t.ep=200):plE t L J=19:=by unfold plE;rw [h,if_pos rfl,if_pos h2]
theorem plE_fit {t:Tr} {L J:List Int} (h:tck t=true) (h2:¬t.ep=200) (h3:¬ft t.ro L J=0):plE t L J=ft t.ro L J:=by unfold plE;rw [h,if_pos rfl,if_neg h2,if_neg h3]
theorem plE_key {t:Tr} {L J:List Int} (h:tck t=true) (h2:¬t.ep=200) (h3:ft t.ro L J=0) (h4:¬plF t L+(J.length:Int)≤32768):plE t L J=3:=by unfold plE;rw [h,if_pos rfl,if_neg h2,if_pos h3,if_neg h4]
theorem plE_ok {t:Tr} {L J:List Int} (h:tck t=true) (h2:¬t.ep=200) (h3:ft t.ro L J=0) (h4:plF t L+(J.length:Int)≤32768):plE t L J=0:=by unfold plE;rw [h,if_pos rfl,if_neg h2,if_pos h3,if_pos h4]
theorem stp_of {t:Tr} {L J:List Int} (h:tck t=true) (h2:¬t.ep=200) (h3:ft t.ro L J=0) (h4:plF t L+(J.length:Int)≤32768):Stp t L J:=
 ⟨h,tck_right h,by have:=(tck_right h).e1;omega,Rs.ft_ok h3,h4⟩
theorem plE_stp {t:Tr} {L J:List Int} (h:plE t L J=0):Stp t L J:=by
 cases h1:tck t with
 | false=>rw [plE_bad h1] at h;cases h
 | true=>
  by_cases h2:t.ep=200
  ·rw [plE_spent h1 h2] at h;cases h
  ·by_cases h3:ft t.ro L J=0
   ·by_cases h4:plF t L+(J.length:Int)≤32768
    ·exact stp_of h1 h2 h3 h4
    ·rw [plE_key h1 h2 h3 h4] at h;cases h
   ·rw [plE_fit h1 h2 h3] at h;exact absurd h h3
theorem Stp.pl {t:Tr} {L J:List Int} (h:Stp t L J):plE t L J=0:=plE_ok h.ok (by have:=h.ep;omega) (Rs.ft_of h.fit) h.nm
/- The turn of a right tree's keys. -/
theorem turn_E {t:Tr} (h:Right t) (he:t.ep≤199) {r:Nat} (hr:r<2097152):trE t.ks r t.fr=if t.fr+((cu r 21:Nat):Int)≤32768 then 0 else 3:=by
 have hs:Rt.stuck t.ks r=false:=Rt.stuck_no fun v hv=>by
  have:=(h.fk v hv).2;unfold Rt.skk;rw [decide_eq_false (show ¬(254<(t.ks v).stp) by omega),Bool.and_false]
 by_cases h0:cu r 21=0
 ·rw [if_pos (by rw [h0];have:=h.f1;simp;omega)];exact Rt.trE_ok h.ks hr (Rt.frk_zero h0) hs
 ·by_cases hc:t.fr+((cu r 21:Nat):Int)≤32768
  ·rw [if_pos hc];refine Rt.trE_ok h.ks hr (Rt.frk_fine (by have:=h.f0;omega) (by omega) fun i hi=>?_) hs;have:=(h.fk i hi).1;unfold Rt.nm1;rw [decide_eq_false (by omega),Bool.false_and]
  ·rw [if_neg hc];exact Rt.trE_key h.ks hr (Rt.frk_low h0 (by omega))
theorem Stp.turn {t:Tr} {L J:List Int} (h:Stp t L J):trE t.ks (plR t L) t.fr=0:=by
 rw [turn_E h.rt h.ep (plR_lt t L),if_pos];have:=h.nm;unfold plF at this;omega
/- The two halves of a batch. -/
theorem fit_left {f:Nat→En} {L J:List Int} (h:FitOk f L J):FitOk f L []:=⟨h.chk,h.lv,fun k hk=>by simp at hk,by simp⟩
theorem evs_chk {f:Nat→En} {L:List Int} (h:chk f=true):chk (evs f L)=true:=Rs.chk_rt.2 (Rs.chk_rt.1 h).evs
theorem fit_join {f:Nat→En} {L J:List Int} (h:FitOk f L J):FitOk (evs f L) [] J:=by
 refine ⟨evs_chk h.chk,fun k hk=>by simp at hk,fun k hk=>?_,?_⟩
 ·obtain ⟨h1,h2,h3⟩:=h.jn k hk;refine ⟨h1,fun hm=>h2 (List.mem_append.2 (.inr (by simpa using hm))),?_⟩;rw [Rs.on_evs fun hm=>h2 (List.mem_append.2 (.inl hm))];exact h3
 ·have h1:=h.cnt;have h2:=h.room;have h3:=Rs.cnt_le f;simp;omega
theorem eok_next {t:Tr} (h:Right t) (he:t.ep≤199):eok (t.ep+1)=true:=by
 have:=h.e0;unfold Rs.eok;rw [decide_eq_true (by omega),decide_eq_true (by omega)];rfl
theorem frA_yes {f:Nat→En} {bs:Int} {n:Nat}:∀k,(∀i,i<k→(f i).bas<bs)→frA f bs n k=true
 | 0,_=>rfl
 | k+1,h=>by
  unfold Rs.frA;rw [frA_yes k fun i hi=>h i (by omega),decide_eq_false (by have:=h k (by omega);omega)];rfl
theorem fre_iff {f:Nat→En} {bs:Int} {n:Nat} (h:∀i,i<64→(f i).bas<bs) (h0:1≤bs) (h1:bs≤32768):fre f bs n=decide (bs+(n:Int)≤32768):=by
 unfold Rs.fre;rw [frA_yes 64 h,decide_eq_true h0];by_cases hn:n=0
 ·subst hn;rw [decide_eq_true rfl,Bool.true_or,decide_eq_true (by simpa using h1)]
 ·rw [decide_eq_false hn,Bool.false_or,Bool.true_and,Bool.and_true];rw [Bool.eq_iff_iff,decide_eq_true_iff,decide_eq_true_iff];omega
theorem evs_bas {f:Nat→En} {L:List Int} {b:Int} (h:∀i,i<64→(f i).bas<b) (h0:0<b) {i:Nat} (hi:i<64):(evs f L i).bas<b:=by
 rcases Rs.evs_sub (L:=L) (f:=f) (i:=i) with e | e
 ·rw [e];exact h i hi
 ·rw [e];exact h0
theorem plF_ge (t:Tr) (L:List Int):t.fr≤plF t L:=by unfold plF;omega
theorem move1 {t:Tr} (h:Right t) (he:t.ep≤199) {L J:List Int} (hf:FitOk t.ro L J):mvE t.ro L [] (t.ep+1) t.fr=0∧mvR t.ro L [] (t.ep+1) t.fr=evs t.ro L∧mvL t.ro L [] (t.ep+1) t.fr=evl t.ro L:=by
 have h0:mvE t.ro L [] (t.ep+1) t.fr=0:=Rs.mvE_of (fit_left hf) (eok_next h he) rfl;refine ⟨h0,?_,?_⟩
 ·unfold Rs.mvR;rw [if_pos h0];rfl
 ·unfold Rs.mvL;rw [if_pos h0]
theorem ro_lt {t:Tr} (h:Right t) (L:List Int):∀i,i<64→(t.ro i).bas<plF t L:=fun i hi=>by
 have:=(h.fs i hi).1;have:=plF_ge t L;omega
theorem move2 {t:Tr} (h:Right t) (he:t.ep≤199) {L J:List Int} (hf:FitOk t.ro L J) (hn:plF t L≤32768):mvE (evs t.ro L) [] J (t.ep+1) (plF t L)=if plF t L+(J.length:Int)≤32768 then 0 else 3:=by
 have hp:1≤plF t L:=by have:=h.f0;have:=plF_ge t L;omega
 have hfr:=fre_iff (f:=evs t.ro L) (n:=J.length) (fun i hi=>evs_bas (ro_lt h L) (by omega) hi) hp hn;by_cases hc:plF t L+(J.length:Int)≤32768
 ·rw [if_pos hc];exact Rs.mvE_of (fit_join hf) (eok_next h he) (by rw [hfr,decide_eq_true hc])
 ·rw [if_neg hc];unfold Rs.mvE;rw [if_pos (Rs.ft_of (fit_join hf)),eok_next h he,if_pos rfl,hfr,decide_eq_false hc];rfl
theorem move3 {t:Tr} (h:Right t) (he:t.ep≤199) {L J:List Int} (hf:FitOk t.ro L J) (hn:plF t L≤32768):mvE t.ro L J (t.ep+1) (plF t L)=if plF t L+(J.length:Int)≤32768 then 0 else 3:=by
 have hp:1≤plF t L:=by have:=h.f0;have:=plF_ge t L;omega
 have hfr:=fre_iff (f:=t.ro) (n:=J.length) (ro_lt h L) hp hn;by_cases hc:plF t L+(J.length:Int)≤32768
 ·rw [if_pos hc];exact Rs.mvE_of hf (eok_next h he) (by rw [hfr,decide_eq_true hc])
 ·rw [if_neg hc];unfold Rs.mvE;rw [if_pos (Rs.ft_of hf),eok_next h he,if_pos rfl,hfr,decide_eq_false hc];rfl
theorem Stp.le {t:Tr} {L J:List Int} (h:Stp t L J):plF t L≤32768:=by have:=h.nm;omega
theorem Stp.m2 {t:Tr} {L J:List Int} (h:Stp t L J):mvE (evs t.ro L) [] J (t.ep+1) (plF t L)=0:=by rw [move2 h.rt h.ep h.fit h.le,if_pos h.nm]
theorem Stp.m3 {t:Tr} {L J:List Int} (h:Stp t L J):mvE t.ro L J (t.ep+1) (plF t L)=0:=by rw [move3 h.rt h.ep h.fit h.le,if_pos h.nm]
theorem Stp.r2 {t:Tr} {L J:List Int} (h:Stp t L J):mvR (evs t.ro L) [] J (t.ep+1) (plF t L)=(nx t L J).ro:=by unfold Rs.mvR;rw [if_pos h.m2];rfl
theorem Stp.r3 {t:Tr} {L J:List Int} (h:Stp t L J):mvR t.ro L J (t.ep+1) (plF t L)=(nx t L J).ro:=by unfold Rs.mvR;rw [if_pos h.m3];rfl
theorem Stp.j2 {t:Tr} {L J:List Int} (h:Stp t L J):mvJ (evs t.ro L) [] J (t.ep+1) (plF t L)=jns t L J:=by unfold Rs.mvJ;rw [if_pos h.m2];rfl
/- What an entry behind the step is. -/
theorem nx_ent {t:Tr} {L J:List Int} (h:Stp t L J) (i:Nat):((nx t L J).ro i=evs t.ro L i∧(evs t.ro L i=t.ro i∨evs t.ro L i=zE))∨∃m,m<J.length∧i=(mvT t.ro L J).getD m 0∧(nx t L J).ro i=⟨J.getD m 0,plF t L+(m:Int),t.ep+1⟩:=by
 rcases Rs.adm_cases (evs t.ro L) (mvT t.ro L J) J (t.ep+1) (plF t L) i J.length with e | ⟨m,h1,h2,h3⟩
 ·exact .inl ⟨e,Rs.evs_sub⟩
 ·exact .inr ⟨m,h1,h2,h3⟩
/- The new tree is right. -/
theorem right_tck {t:Tr} (h:Right t):tck t=true:=by
 unfold tck bnd;rw [decide_eq_true h.e0,decide_eq_true h.e1,decide_eq_true h.f0,decide_eq_true h.f1,h.ks,h.ro]
 have h1:fitK t=true:=all_yes fun v hv=>by
  unfold fk1;rw [decide_eq_true (h.fk v hv).1,decide_eq_true (h.fk v hv).2];rfl
 have h2:fitS t=true:=all_yes fun s hs=>by
  obtain ⟨a,b,c⟩:=h.fs s hs;unfold fs1;rw [decide_eq_true a,decide_eq_true b];have:isn t.ks (t.ro s).bas=false:=any_no fun v hv=>decide_eq_false (c v hv)
  rw [this];rfl
 rw [h1,h2];rfl
theorem Stp.key {t:Tr} {L J:List Int} (h:Stp t L J) {v:Nat} (hv:v<21):((plR t L).testBit v=true∧(nx t L J).ks v=⟨t.fr+((cd (plR t L) (20 - v):Nat):Int),0⟩∧t.fr≤((nx t L J).ks v).bas∧((nx t L J).ks v).bas<plF t L)∨((plR t L).testBit v=false∧(nx t L J).ks v=⟨(t.ks v).bas,(t.ks v).stp+1⟩):=by
 cases hb:(plR t L).testBit v with
 | true=>
  have e:(nx t L J).ks v=⟨t.fr+((cd (plR t L) (20 - v):Nat):Int),0⟩:=Rt.trK_new hb;refine .inl ⟨rfl,e,?_,?_⟩
  ·rw [e];dsimp only;omega
  ·rw [e];have:=Rt.cd_lt hv hb;unfold plF;dsimp only;omega
 | false=>exact .inr ⟨rfl,Rt.trK_old hb⟩
theorem Stp.right {t:Tr} {L J:List Int} (h:Stp t L J):Right (nx t L J):=by
 have hr:=h.rt;have hge:=plF_ge t L;have hk:kchk (nx t L J).ks=true:=Rt.trK_right h.turn;have hro:chk (nx t L J).ro=true:=by rw [←h.r3];exact Rs.mvR_right h.m3
 have hnm:=h.nm;have e0:=hr.e0;have ep:=h.ep;have f0:=hr.f0;refine ⟨?_,?_,?_,hnm,hk,hro,fun v hv=>?_,fun s hs=>?_⟩
 ·show 0≤t.ep+1;omega
 ·show t.ep+1≤200;omega
 ·show 22≤plF t L+(J.length:Int);omega
 ·show ((nx t L J).ks v).bas<plF t L+(J.length:Int)∧((nx t L J).ks v).stp≤t.ep+1
  obtain ⟨a,b⟩:=hr.fk v hv;rcases h.key hv with ⟨_,e,_,lt⟩ | ⟨_,e⟩
  ·refine ⟨by omega,by rw [e];dsimp only;omega⟩
  ·rw [e];dsimp only;omega
 ·show ((nx t L J).ro s).bas<plF t L+(J.length:Int)∧((nx t L J).ro s).snc≤t.ep+1∧∀v,v<21→((nx t L J).ks v).bas≠((nx t L J).ro s).bas
  obtain ⟨a,b,c⟩:=hr.fs s hs;rcases nx_ent h s with ⟨e,e2⟩ | ⟨m,hm,hs2,e⟩
  ·rw [e];rcases e2 with e2 | e2
   ·rw [e2];refine ⟨by omega,by omega,fun v hv=>?_⟩;rcases h.key hv with ⟨_,_,ge,_⟩ | ⟨_,e3⟩
    ·omega
    ·rw [e3];exact c v hv
   ·rw [e2];refine ⟨by show (0:Int)<_;omega,by show (0:Int)≤_;omega,fun v hv=>?_⟩;have:=((Rt.kchk_iff.1 hk).1 v hv).1.1;show _≠(0:Int)
    omega
  ·rw [e];refine ⟨by dsimp only;omega,by dsimp only;omega,fun v hv=>?_⟩;dsimp only;rcases h.key hv with ⟨_,_,_,lt⟩ | ⟨_,e3⟩
   ·omega
   ·rw [e3];have:=(hr.fk v hv).1;dsimp only;omega
theorem Stp.tckn {t:Tr} {L J:List Int} (h:Stp t L J):tck (nx t L J)=true:=right_tck h.right
open Rt (Ky zK kcs kchk lfE lfB lfS cu cd trE trK b1 gd Gd)
open Rs (En zE rcs tkn tk fnd chk ft evs evl adm adl mvT mvE mvR FitOk on sl)
open Sh (belB lef)
/- An item; the key of an inner node or of a leaf. -/
structure It where
 nd:Int
 fm:Int
 un:Ky
 ld:Ky
def kyA (t:Tr) (v:Nat):Ky:=if v<21 then t.ks v else ⟨lfB (t.ro (v - 21)).bas (t.ro (v - 21)).snc t.ep,lfS (t.ro (v - 21)).bas (t.ro (v - 21)).snc t.ep⟩
def mkI (t:Tr) (v c:Nat):It:=⟨v,c,kyA t c,kyA t v⟩
theorem kyA_in {t:Tr} {v:Nat} (h:v<21):kyA t v=t.ks v:=if_pos h
theorem kyA_leaf {t:Tr} {s:Nat}:kyA t (21+s)=⟨lfB (t.ro s).bas (t.ro s).snc t.ep,lfS (t.ro s).bas (t.ro s).snc t.ep⟩:=by
 unfold kyA;rw [if_neg (by omega),Nat.add_sub_cancel_left]
theorem kyA_ko {t:Tr} (h:tck t=true) {v:Nat} (hv:v<85) (h0:koE t v=0):kyA t v=koK t v:=by
 rcases kn h hv h0 with ⟨h1,e⟩ | ⟨s,hs,e1,ht,e⟩
 ·rw [e,kyA_in h1]
 ·have:=(tck_right h).leaf hs ht;subst e1;rw [e,kyA_leaf];unfold Rt.lfB Rt.lfS;rw [if_pos this,if_pos this]
/- The items of a replaced node, up to its child k; of the replaced nodes, j of them from above. -/
def nI (t:Tr) (v k:Nat):List It:=(List.range k).flatMap fun i=>if hld t.ro ((4 * v+1+i:Nat):Int) then [mkI t v (4 * v+1+i)] else []
def dI (t:Tr) (r j:Nat):List It:=(List.range j).flatMap fun m=>if r.testBit (20 - m) then nI t (20 - m) 4 else []
def jI (t:Tr) (r s k:Nat):List It:=(List.range k).flatMap fun i=>if r.testBit (pn s i) then [] else [mkI t (pn s i) (21+s)]
def jJ (t:Tr) (r:Nat) (js:List (Int×Int)):List It:=js.flatMap fun p=>jI t r p.2.toNat 3
def its (t:Tr) (r:Nat) (js:List (Int×Int)):List It:=dI t r 21++jJ t r js
theorem nI_zero (t:Tr) (v:Nat):nI t v 0=[]:=rfl
theorem nI_yes {t:Tr} {v k:Nat} (h:hld t.ro ((4 * v+1+k:Nat):Int)=true):nI t v (k+1)=nI t v k++[mkI t v (4 * v+1+k)]:=by
 unfold nI;rw [List.range_succ,List.flatMap_append,List.flatMap_singleton,h,if_pos rfl]
theorem nI_no {t:Tr} {v k:Nat} (h:hld t.ro ((4 * v+1+k:Nat):Int)=false):nI t v (k+1)=nI t v k:=by
 unfold nI;rw [List.range_succ,List.flatMap_append,List.flatMap_singleton,h,if_neg (by simp),List.append_nil]
theorem dI_yes {t:Tr} {r j:Nat} (h:r.testBit (20 - j)=true):dI t r (j+1)=dI t r j++nI t (20 - j) 4:=by
 unfold dI;rw [List.range_succ,List.flatMap_append,List.flatMap_singleton,h,if_pos rfl]
theorem dI_no {t:Tr} {r j:Nat} (h:r.testBit (20 - j)=false):dI t r (j+1)=dI t r j:=by
 unfold dI;rw [List.range_succ,List.flatMap_append,List.flatMap_singleton,h,if_neg (by simp),List.append_nil]
theorem jI_zero (t:Tr) (r s:Nat):jI t r s 0=[]:=rfl
theorem jI_yes {t:Tr} {r s k:Nat} (h:r.testBit (pn s k)=true):jI t r s (k+1)=jI t r s k:=by
 unfold jI;rw [List.range_succ,List.flatMap_append,List.flatMap_singleton,h,if_pos rfl,List.append_nil]
theorem jI_no {t:Tr} {r s k:Nat} (h:r.testBit (pn s k)=false):jI t r s (k+1)=jI t r s k++[mkI t (pn s k) (21+s)]:=by
 unfold jI;rw [List.range_succ,List.flatMap_append,List.flatMap_singleton,h,if_neg (by simp)]
theorem jJ_snoc (t:Tr) (r:Nat) (l:List (Int×Int)) (p:Int×Int):jJ t r (l++[p])=jJ t r l++jI t r p.2.toNat 3:=by
 unfold jJ;rw [List.flatMap_append,List.flatMap_singleton]
theorem jJ_nil (t:Tr) (r:Nat):jJ t r []=[]:=rfl
theorem nI_len (t:Tr) (v:Nat):∀k,(nI t v k).length≤k
 | 0=>by simp [nI]
 | k+1=>by
  have:=nI_len t v k
  cases h:hld t.ro ((4 * v+1+k:Nat):Int) with
  | true=>rw [nI_yes h,List.length_append];simp;omega
  | false=>rw [nI_no h];omega
theorem dI_len (t:Tr) (r:Nat):∀j,j≤21→(dI t r j).length≤4 * cd r j
 | 0,_=>by simp [dI]
 | j+1,hj=>by
  have ih:=dI_len t r j (by omega);have hn:=nI_len t (20 - j) 4;simp only [Rt.cd];unfold Rt.b1
  cases h:r.testBit (20 - j) with
  | true=>rw [dI_yes h,List.length_append,if_pos rfl];omega
  | false=>rw [dI_no h,if_neg (by simp)];omega
theorem jI_len (t:Tr) (r s:Nat):∀k,(jI t r s k).length≤k
 | 0=>by simp [jI]
 | k+1=>by
  have:=jI_len t r s k
  cases h:r.testBit (pn s k) with
  | true=>rw [jI_yes h];omega
  | false=>rw [jI_no h,List.length_append];simp;omega
theorem jJ_len (t:Tr) (r:Nat):∀js:List (Int×Int),(jJ t r js).length≤3 * js.length
 | []=>by simp [jJ]
 | p::l=>by
  have ih:=jJ_len t r l;have:=jI_len t r p.2.toNat 3;unfold jJ at *;rw [List.flatMap_cons,List.length_append,List.length_cons];omega
/- How many nodes are replaced. -/
def cnW (p:Nat→Bool):Nat→Nat
 | 0=>0
 | n+1=>cnW p n+if p n then 1 else 0
theorem cu_mkW (p:Nat→Bool):∀k,k≤21→cu (mkW p 21) k=cnW p k
 | 0,_=>rfl
 | k+1,h=>by
  rw [Rt.cu,cnW,cu_mkW p k (by omega)];unfold Rt.b1;rw [mkW_bit,decide_eq_true (by omega),Bool.true_and]
theorem cnW_or (p q:Nat→Bool):∀n,cnW (fun v=>p v||q v) n≤cnW p n+cnW q n
 | 0=>by simp [cnW]
 | n+1=>by
  have:=cnW_or p q n;simp only [cnW];by_cases hp:p n=true <;> by_cases hq:q n=true
  ·rw [if_pos (by rw [hp];rfl),if_pos hp,if_pos hq];omega
  ·rw [if_pos (by rw [hp];rfl),if_pos hp,if_neg hq];omega
  ·rw [if_pos (by rw [hq,Bool.or_true]),if_neg hp,if_pos hq];omega
  ·rw [if_neg (by rw [Bool.not_eq_true] at hp hq;rw [hp,hq];simp),if_neg hp,if_neg hq];omega
theorem cnW_none {p:Nat→Bool}:∀n,(∀i,i<n→p i=false)→cnW p n=0
 | 0,_=>rfl
 | n+1,h=>by rw [cnW,cnW_none n fun i hi=>h i (by omega),h n (by omega)];rfl
theorem cn_path:∀s:Fin 64,cnW (fun v=>belB (v:Int) (21+(s.val:Int))) 21=3:=by decide+kernel
theorem cn_seat (x:Int):cnW (fun v=>belB (v:Int) (lef x)) 21≤3:=by
 cases hs:sl x with
 | false=>
  rw [cnW_none 21 fun i hi=>by rw [Sh.lef_no (Rs.sl_not hs),Sh.belB_no' (Sh.nodeB_no (by omega))]];omega
 | true=>
  obtain ⟨k,hk,h2⟩:=Rs.sl_nat hs;rw [hk,Sh.lef_yes (by omega) (by omega)];have:=cn_path ⟨k,h2⟩;exact Nat.le_of_eq this
theorem cn_rpl:∀l:List (Int×Int),cnW (rpl l) 21≤3 * l.length
 | []=>by rw [cnW_none (p:=rpl []) 21 fun i _=>rfl];omega
 | p::l=>by
  have ih:=cn_rpl l;have h1:=cnW_or (fun v=>belB (v:Int) (lef p.2)) (rpl l) 21;have h2:=cn_seat p.2;have e:(rpl (p::l))=fun v:Nat=>belB (v:Int) (lef p.2)||rpl l v:=by funext v;unfold rpl;rw [List.any_cons]
  rw [e,List.length_cons];omega
theorem cu_rp (l:List (Int×Int)):cu (rp l) 21≤3 * l.length:=by unfold rp;rw [cu_mkW _ _ (by omega)];exact cn_rpl l
theorem its_len (t:Tr) (l js:List (Int×Int)):(its t (rp l) js).length≤12 * (l.length+js.length):=by
 have h1:=dI_len t (rp l) 21 (by omega);have h2:=jJ_len t (rp l) js;have h3:=cu_rp l;rw [Rt.cd_all] at h1;unfold its;rw [List.length_append];omega
/- Which items there are. -/
theorem mem_nI {t:Tr} {v k:Nat} {x:It}:x∈nI t v k↔∃i,i<k∧hld t.ro ((4 * v+1+i:Nat):Int)=true∧x=mkI t v (4 * v+1+i):=by
 unfold nI;rw [List.mem_flatMap];constructor
 ·rintro ⟨i,hi,hx⟩
  cases h:hld t.ro ((4 * v+1+i:Nat):Int) with
  | true=>rw [h,if_pos rfl] at hx;exact ⟨i,List.mem_range.1 hi,h,List.mem_singleton.1 hx⟩
  | false=>rw [h,if_neg (by simp)] at hx;cases hx
 ·rintro ⟨i,hi,h,rfl⟩;exact ⟨i,List.mem_range.2 hi,by rw [h,if_pos rfl];exact List.mem_singleton.2 rfl⟩
theorem mem_dI {t:Tr} {r:Nat} {x:It}:x∈dI t r 21↔∃v i,v<21∧i<4∧r.testBit v=true∧hld t.ro ((4 * v+1+i:Nat):Int)=true∧x=mkI t v (4 * v+1+i):=by
 unfold dI;rw [List.mem_flatMap];constructor
 ·rintro ⟨m,hm,hx⟩;have hm:=List.mem_range.1 hm
  cases h:r.testBit (20 - m) with
  | true=>
   rw [h,if_pos rfl] at hx;obtain ⟨i,h1,h2,h3⟩:=mem_nI.1 hx;exact ⟨20 - m,i,by omega,h1,h,h2,h3⟩
  | false=>rw [h,if_neg (by simp)] at hx;cases hx
 ·rintro ⟨v,i,hv,hi,hb,hh,rfl⟩;refine ⟨20 - v,List.mem_range.2 (by omega),?_⟩;rw [show 20 - (20 - v)=v by omega,hb,if_pos rfl];exact mem_nI.2 ⟨i,hi,hh,rfl⟩
theorem mem_jI {t:Tr} {r s:Nat} {x:It}:x∈jI t r s 3↔∃i,i<3∧r.testBit (pn s i)=false∧x=mkI t (pn s i) (21+s):=by
 unfold jI;rw [List.mem_flatMap];constructor
 ·rintro ⟨i,hi,hx⟩
  cases h:r.testBit (pn s i) with
  | false=>rw [h,if_neg (by simp)] at hx;exact ⟨i,List.mem_range.1 hi,h,List.mem_singleton.1 hx⟩
  | true=>rw [h,if_pos rfl] at hx;cases hx
 ·rintro ⟨i,hi,h,rfl⟩;exact ⟨i,List.mem_range.2 hi,by rw [h,if_neg (by simp)];exact List.mem_singleton.2 rfl⟩
theorem mem_jJ {t:Tr} {r:Nat} {js:List (Int×Int)} {x:It}:x∈jJ t r js↔∃p∈js,∃i,i<3∧r.testBit (pn p.2.toNat i)=false∧x=mkI t (pn p.2.toNat i) (21+p.2.toNat):=by
 unfold jJ;rw [List.mem_flatMap];constructor
 ·rintro ⟨p,hp,hx⟩;exact ⟨p,hp,mem_jI.1 hx⟩
 ·rintro ⟨p,hp,hx⟩;exact ⟨p,hp,mem_jI.2 hx⟩
/- The joined seats. -/
theorem mem_jns {t:Tr} {L J:List Int} {p:Int×Int}:p∈jns t L J↔∃m,m<J.length∧p=(J.getD m 0,(((mvT t.ro L J).getD m 0:Nat):Int)):=by
 unfold jns;rw [List.mem_iff_getElem];constructor
 ·rintro ⟨m,hm,e⟩;have hm':m<J.length:=by simpa using hm
  refine ⟨m,hm',?_⟩;rw [←Rs.adl_get (mvT t.ro L J) J J.length hm',List.getD_eq_getElem?_getD,List.getElem?_eq_getElem hm,Option.getD_some,e]
 ·rintro ⟨m,hm,rfl⟩;refine ⟨m,by simpa using hm,?_⟩;have:=Rs.adl_get (mvT t.ro L J) J J.length hm;rw [List.getD_eq_getElem?_getD,List.getElem?_eq_getElem (by simpa using hm),Option.getD_some] at this;exact this
theorem Stp.joined {t:Tr} {L J:List Int} (h:Stp t L J) {m:Nat} (hm:m<J.length):(mvT t.ro L J).getD m 0<64∧(nx t L J).ro ((mvT t.ro L J).getD m 0)=⟨J.getD m 0,plF t L+(m:Int),t.ep+1⟩∧tkn (evs t.ro L ((mvT t.ro L J).getD m 0))=false:=by
 have hv:=Rs.mv_of h.m3;have ht:=Rs.T_free (f:=t.ro) (L:=L) (J:=J) (m:=m) (by rw [hv.ok.lenT];omega);exact ⟨ht.1,Rs.adm_get hv (m:=m) J.length hm (Nat.le_refl _),ht.2⟩
theorem Stp.seat {t:Tr} {L J:List Int} (h:Stp t L J) {p:Int×Int} (hp:p∈jns t L J):∃s:Nat,s<64∧p.2=(s:Int)∧tkn ((nx t L J).ro s)=true∧((nx t L J).ro s).snc=t.ep+1∧plF t L≤((nx t L J).ro s).bas:=by
 obtain ⟨m,hm,e⟩:=mem_jns.1 hp;obtain ⟨h1,h2,_⟩:=h.joined hm;refine ⟨(mvT t.ro L J).getD m 0,h1,by rw [e],?_,?_,?_⟩
 ·rw [h2];have:=h.rt.f0;have:=plF_ge t L;simp [Rs.tkn];omega
 ·rw [h2]
 ·rw [h2];dsimp only;omega
/- Nodes and paths. -/
theorem child_all:∀v:Fin 21,∀i:Fin 4,belB (v.val:Int) ((4 * v.val+1+i.val:Nat):Int)=true∧∀u:Fin 85,belB ((4 * v.val+1+i.val:Nat):Int) (u.val:Int)=true→belB (v.val:Int) (u.val:Int)=true:=by decide+kernel
theorem path_all:∀s:Fin 64,∀i:Fin 3,belB (pn s.val i.val:Int) (21+(s.val:Int))=true:=by decide+kernel
theorem path_bel {s i:Nat} (hs:s<64) (hi:i<3):belB (pn s i:Int) (21+(s:Int))=true:=path_all ⟨s,hs⟩ ⟨i,hi⟩
theorem leaf_bel:∀s u:Fin 64,belB (21+(s.val:Int)) (21+(u.val:Int))=decide (s.val=u.val):=by decide+kernel
theorem leaf_same {s u:Nat} (hs:s<64) (hu:u<64) (h:belB (21+(s:Int)) (21+(u:Int))=true):s=u:=by
 have:=leaf_bel ⟨s,hs⟩ ⟨u,hu⟩;rw [h] at this;exact of_decide_eq_true this.symm
theorem leaf_self {s:Nat} (hs:s<64):belB (21+(s:Int)) (21+(s:Int))=true:=by
 rw [leaf_bel ⟨s,hs⟩ ⟨s,hs⟩];simp
/- The node below, on the path of a slot: the leaf, or the node ahead. -/
def bel (s i:Nat):Nat:=if i=0 then 21+s else pn s (i - 1)
theorem hld_yes {r:Nat→En} {s:Nat} {v:Int} (hs:s<64) (ht:tkn (r s)=true) (h:belB v (21+(s:Int))=true):hld r v=true:=any_yes hs (by rw [ht,h];rfl)
theorem hld_at {r:Nat→En} {v:Int} (h:hld r v=true):∃s,s<64∧tkn (r s)=true∧belB v (21+(s:Int))=true:=by
 unfold hld at h;rw [List.any_eq_true] at h;obtain ⟨s,hs,h2⟩:=h;rw [Bool.and_eq_true] at h2;exact ⟨s,List.mem_range.1 hs,h2.1,h2.2⟩
/- A leaf below which somebody sits is taken. -/
theorem hld_leaf {t:Tr} (h:tck t=true) {c:Nat} (hc:c<85) (hh:hld t.ro (c:Int)=true):koE t (c:Int)=0:=by
 rcases Nat.lt_or_ge c 21 with h1 | h1
 ·exact koE_inner h (by omega) (by omega)
 ·obtain ⟨s,hs,ht,hb⟩:=hld_at hh;obtain ⟨u,rfl⟩:∃u,c=21+u:=⟨c - 21,by omega⟩;have hb':belB (21+(u:Int)) (21+(s:Int))=true:=by have:=hb;push_cast at this;exact this
  have e:=leaf_same (by omega) hs hb';subst e;have:=koE_leaf h (s:=u) (by omega);rw [show ((21+u:Nat):Int)=21+(u:Int) by push_cast;rfl,this];exact (tck_right h).leaf hs ht
/- The items of a step: under a key of a node that is held, the key of a node above it. -/
structure Itm (t:Tr) (v c:Nat):Prop where
 lv:v<21
 lc:c<85
 held:hld t.ro (c:Int)=true
 up:∀u:Nat,u<85→belB (c:Int) (u:Int)=true→belB (v:Int) (u:Int)=true
theorem leaf_up:∀s:Fin 64,∀u:Fin 85,belB (21+(s.val:Int)) (u.val:Int)=true→(u.val:Int)=21+(s.val:Int):=by decide+kernel
theorem item_of {t:Tr} {L J:List Int} (h:Stp t L J) {x:It} (hx:x∈its (nx t L J) (plR t L) (jns t L J)):∃v c,x=mkI (nx t L J) v c∧Itm (nx t L J) v c:=by
 unfold its at hx;rcases List.mem_append.1 hx with hx | hx
 ·obtain ⟨v,i,hv,hi,_,hh,e⟩:=mem_dI.1 hx;refine ⟨v,4 * v+1+i,e,hv,by omega,hh,fun u hu hb=>?_⟩;exact (child_all ⟨v,hv⟩ ⟨i,hi⟩).2 ⟨u,hu⟩ hb
 ·obtain ⟨p,hp,i,hi,_,e⟩:=mem_jJ.1 hx;obtain ⟨s,hs,hp2,ht,_,_⟩:=h.seat hp;rw [hp2,Int.toNat_natCast] at e;have e2:((21+s:Nat):Int)=21+(s:Int):=by push_cast;rfl
  refine ⟨pn s i,21+s,e,pn_lt hs i,by omega,?_,fun u hu hb=>?_⟩
  ·rw [e2];exact hld_yes hs ht (leaf_self hs)
  ·rw [e2] at hb;rw [leaf_up ⟨s,hs⟩ ⟨u,hu⟩ hb];exact path_bel hs hi
/- Old keys and new ones. -/
structure Kept (t u:Tr) (c:Nat):Prop where
 was:koE t (c:Int)=0
 bas:(koK u (c:Int)).bas=(koK t (c:Int)).bas
 stp:(koK u (c:Int)).stp=(koK t (c:Int)).stp+1
theorem koK_leaf {t:Tr} (h:tck t=true) {s:Nat} (hs:s<64) (ht:tkn (t.ro s)=true):koE t ((21+s:Nat):Int)=0∧koK t ((21+s:Nat):Int)=⟨(t.ro s).bas,t.ep - (t.ro s).snc⟩:=by
 have e2:((21+s:Nat):Int)=21+(s:Int):=by push_cast;rfl
 have h0:koE t ((21+s:Nat):Int)=0:=by rw [e2,koE_leaf h hs];exact (tck_right h).leaf hs ht
 refine ⟨h0,?_⟩;unfold koK;rw [if_pos h0,if_neg (by omega),e2,show (21+(s:Int) - 21).toNat=s by omega]
/- The left seats. -/
theorem Stp.left {t:Tr} {L J:List Int} (h:Stp t L J) {p:Int×Int} (hp:p∈evl t.ro L):∃s:Nat,s<64∧p.2=(s:Int)∧tkn (t.ro s)=true∧(t.ro s).who=p.1∧p.1∈L:=by
 rw [fit_evl h.fit] at hp;obtain ⟨x,hx,e⟩:=List.mem_map.1 hp;obtain ⟨k,hk,he⟩:=List.mem_iff_getElem.1 hx;have hon:=(h.fit.lv k hk).2.2;have ex:L.getD k 0=x:=by rw [List.getD_eq_getElem?_getD,List.getElem?_eq_getElem hk,Option.getD_some,he]
 rw [ex] at hon;obtain ⟨j,h1,h2,h3⟩:=Rs.on_at hon;obtain ⟨h4,h5⟩:=Rs.at_who h3;subst e;exact ⟨j,h2,h1,h4,h5,hx⟩
end Go.Proofs.YtoimkngkcliinaaGreatDoor
