/- FrY, FrX, FrX2, FrV, FrU, joined. -/
import Derived.Test.YtanaapfobpgibaaGreatDoorJFrD
import Derived.RangeFuncNested
import Derived.RangeFuncBound
import Derived.Shelf.RegionOpen
import Derived.OwnWalkIn
import Derived.LoopNIn
import Derived.LoopIn
open Go.Proofs.Tryz
set_option maxHeartbeats 4000000
namespace Go.Proofs.YtanaapfobpgibaaGreatDoor.Jr
open Go.RowKit Go.Maps
set_option linter.unusedVariables false
set_option maxRecDepth 4000
set_option linter.unusedSimpArgs false
theorem VQ {w:World} {N g cap n:Nat} {L:List Pc} (h:w.ownsRow N 234 4 (.slice (some ⟨g,0,none⟩) n cap) n (dB L)) (hL:L.length=n) (h0:0<n):w.cell? ⟨g,2,none⟩=some (.int .i64 (L.getD 0 fZ).n):=by
 subst hL;obtain ⟨b,o,e,h1⟩:=Z4.rd (l:=L) h 0 h0;cases e
 have:=h1.c2
 simpa using this
def aah (l:List ByteArray) (w w':World) (e:Ending):Prop:=∃v,e=.returned v∧((SM l∧Z4 w' w.heap.size v (mq l))∨(¬SM l∧v=.slice none 0 0))
theorem Lz (a:Option Addr) (cap:Nat) (l:List ByteArray) (w:World) (hl:l.length≤8796093022208) (fV:iC w a l):
  Calls prog 182 #[.slice a l.length cap] w fun e w'=>aah l w w' e∧Below w.heap.size w w':=by
 obtain ⟨i0,hi,hz0,hz1,hz2⟩:=info_parts aaZ;obtain ⟨n,hn⟩:∃n,l.length=n:=⟨_,rfl⟩;have iO:Hid (l.length=n):=hn;have Ek:Hid (iC w a l):=fV;obtain ⟨F,hF⟩:∃F,fn l=F:=⟨_,rfl⟩;have HF:Hid (fn l=F):=hF;rw [hn];rw [hn] at hl;clear hn fV hF;go_enter func182,ntmps182;go_wp2_with fail
 go_loopw [3,10] (fun v i wr=>∃k:Nat,k≤n∧i=.int .i64 (k:Int)∧wr.ownsRow w.heap.size 234 4 v k (dB ((l.take k).map pL))∧Below w.heap.size w wr∧(∀i,i<k→Ub (l.getD i ⟨#[]⟩))∧(k=0∨k<F)) (fun _ i _=>n - (intOf i).toNat)
 case atStart=>exact ⟨0,by omega,rfl,World.ownsRow_nil _ _ _ _,Below.refl _ _,fun i hi=>by omega,.inl rfl⟩
 case round=>
  obtain ⟨k,hk,rfl,hrow,hb,hub,hkF⟩:=hrel;have dF:Hid (wr.ownsRow w.heap.size 234 4 u3 k (dB ((l.take k).map pL))):=hrow;have HB:Hid (Below w.heap.size w wr):=hb;have HUB:Hid (∀i,i<k→Ub (l.getD i ⟨#[]⟩)):=hub;have Xe:Hid (k=0∨k<F):=hkF;clear hrow hub hkF;by_cases cE:k<n
  ·obtain ⟨b,o,ea,c0⟩:=(Ek.out.later hb) k (by rw [iO.out];exact cE);subst ea;have j1:(0:Int)≤(k:Int):=by omega
   have j2:(k:Int)<(n:Int):=by omega
   by_cases hu:Ub (l.getD k ⟨#[]⟩)
   ·have hc:∀W,Calls prog 236 #[.string (l.getD k ⟨#[]⟩)] W fun e w'=>e=.returned (.tuple #[.agg #[.int .i64 (pL (l.getD k ⟨#[]⟩)).q,.int .i64 (pL (l.getD k ⟨#[]⟩)).p,.int .i64 (pL (l.getD k ⟨#[]⟩)).n,.string (pL (l.getD k ⟨#[]⟩)).d],.int .i64 0])∧Below W.heap.size W w':=fun W=>B7 _ W hu
    have HS:Hid ((l.take (k+1)).map pL=(l.take k).map pL++[pL (l.getD k ⟨#[]⟩)]):=by
     show _=_
     rw [eC l k ⟨#[]⟩ (by rw [iO.out];exact cE),List.map_append];rfl
    have HX:Hid (dB [pL (l.getD k ⟨#[]⟩)]=[.int .i64 (pL (l.getD k ⟨#[]⟩)).q,.int .i64 (pL (l.getD k ⟨#[]⟩)).p,.int .i64 (pL (l.getD k ⟨#[]⟩)).n,.string (pL (l.getD k ⟨#[]⟩)).d]):=rfl
    have HFI:Hid ((((l.take k).map pL++[pL (l.getD k ⟨#[]⟩)]).getD 0 fZ).n=(F:Int)):=by
     show _=_
     rw [←HS.out,←HF.out];unfold fn;have h0:0<l.length:=by rw [iO.out];omega
     rw [show ((l.take (k+1)).map pL).getD 0 fZ=pL (l.getD 0 ⟨#[]⟩) by simp [List.getD_eq_getElem?_getD,List.getElem?_take,List.getElem?_eq_getElem h0]];rfl
    have EI:Hid (((l.take k).map pL++[pL (l.getD k ⟨#[]⟩)]).length=k+1):=by
     show _=_
     rw [List.length_append,List.length_map,List.length_take,iO.out];simp;omega
    have HF1:Hid (1≤F∧(k=0→(pL (l.getD k ⟨#[]⟩)).n=(F:Int))):=by
     show _∧_
     have h0:Ub (l.getD 0 ⟨#[]⟩):=by
      rcases Nat.eq_zero_or_pos k with h | h
      ·rw [h] at hu;exact hu
      ·exact HUB.out 0 h
     refine ⟨by rw [←HF.out];exact (Xv h0).1,fun e=>?_⟩;subst e;rw [←HF.out];rfl
    have HU:Hid (Ub (l.getD k ⟨#[]⟩)):=hu
    have abf:k≤255:=by
     rcases Xe.out with h | h
     ·omega
     ·have h0:Ub (l.getD 0 ⟨#[]⟩):=by
       rcases Nat.eq_zero_or_pos k with h' | h'
       ·rw [h'] at hu;exact hu
       ·exact HUB.out 0 h'
      have h1:=(Xv h0).2;have h2:=HF.out;unfold fn at h2;omega
    obtain ⟨x,hx⟩:∃x,pL (l.getD k ⟨#[]⟩)=x:=⟨_,rfl⟩;obtain ⟨X,hX⟩:∃X,l.getD k ⟨#[]⟩=X:=⟨_,rfl⟩;simp only [hx] at hc;simp only [hX] at hc c0;rw [hx] at HS HX HFI EI HF1;clear hx hb hu;obtain ⟨q1,p1,m1,d1⟩:=x;go_wp2_with fail
    refine (hc _).mono ?_;rintro e w3 ⟨rfl,hb3⟩;have jO:Hid (w3.ownsRow w.heap.size 234 4 u3 k (dB ((l.take k).map pL))):=aQ dF.out hb3;have dR:Hid (Below w.heap.size w w3):=Below.then HB.out hb3;have hs3:w.heap.size≤w3.heap.size:=dR.out.size;clear hb3 hc c0;by_cases hf:k+1=F
    ·have hf2:((k:Int)+1==(F:Int))=true:=by simp;omega
     go_wp2_with (at_builtin;refine wpList_append_lies _ rfl _ _ _ rfl w.heap.size 234 i0 _ 4 40 underlying283 hi hz0 hz1 hz2 rfl (by omega) _ k _ rfl ((jO.out.alloc _).alloc _) ⟨w3.heap.size+1,0,none⟩ 1 1 [.int .i64 q1,.int .i64 p1,.int .i64 m1,.string d1] rfl rfl (qY _ _ _ _ _ _ _ (by simp)) (by simp [Value.oneCell']) (by omega) (by unfold maxLen;omega) (by omega) (by simp;omega) (w3.heap.size+2) (by simp) ?_;intro g4 LQ w4 tE mY P4 PA;have uu:Hid _:=mY;have iv:w4.ownsRow w.heap.size 234 4 (.slice (some ⟨g4,0,none⟩) (k+1) LQ) (k+1) (dB ((l.take k).map pL++[⟨q1,p1,m1,d1⟩])):=(by rw [oP];exact tE);have HO4:Hid (w4.ownsRow w.heap.size 234 4 (.slice (some ⟨g4,0,none⟩) (k+1) LQ) (k+1) (dB ((l.take k).map pL++[⟨q1,p1,m1,d1⟩]))):=iv;have PZ:=VQ iv EI.out (by omega);rw [HFI.out] at PZ;clear tE iv mY P4 PA)
     go_ret
     have e1:SM l:=⟨fun e=>by have:=iO.out;rw [e] at this;simp at this;omega,by rw [HF.out];omega,by rw [HF.out,iO.out];omega,fun i hi=>by
      rw [HF.out] at hi;by_cases e:i=k
      ·subst e;exact HU.out
      ·exact HUB.out i (by omega)⟩
     refine ⟨⟨_,rfl,.inl ⟨e1,?_⟩⟩,(Below.more (Below.more dR.out _) _).grown uu.out (by simp;omega) (fun j hj=>(jO.out.lt j hj).1)⟩;have e2:mq l=(l.take k).map pL++[⟨q1,p1,m1,d1⟩]:=by unfold mq;rw [HF.out,←hf,HS.out]
     unfold Z4;rw [e2,EI.out];have h9:=HO4.out;rw [hf] at h9 ⊢;exact h9
    ·have hf2:((k:Int)+1==(F:Int))=false:=by simp;omega
     go_wp2_with (at_builtin;refine wpList_append_lies _ rfl _ _ _ rfl w.heap.size 234 i0 _ 4 40 underlying283 hi hz0 hz1 hz2 rfl (by omega) _ k _ rfl ((jO.out.alloc _).alloc _) ⟨w3.heap.size+1,0,none⟩ 1 1 [.int .i64 q1,.int .i64 p1,.int .i64 m1,.string d1] rfl rfl (qY _ _ _ _ _ _ _ (by simp)) (by simp [Value.oneCell']) (by omega) (by unfold maxLen;omega) (by omega) (by simp;omega) (w3.heap.size+2) (by simp) ?_;intro g4 LQ w4 tE mY P4 PA;have uu:Hid _:=mY;have iv:w4.ownsRow w.heap.size 234 4 (.slice (some ⟨g4,0,none⟩) (k+1) LQ) (k+1) (dB ((l.take k).map pL++[⟨q1,p1,m1,d1⟩])):=(by rw [oP];exact tE);have HO4:Hid (w4.ownsRow w.heap.size 234 4 (.slice (some ⟨g4,0,none⟩) (k+1) LQ) (k+1) (dB ((l.take k).map pL++[⟨q1,p1,m1,d1⟩]))):=iv;have PZ:=VQ iv EI.out (by omega);rw [HFI.out] at PZ;clear tE iv mY P4 PA)
     go_roundw
     case rel=>
      refine ⟨k+1,by omega,by go_num,?_,?_,?_,?_⟩
      ·rw [HS.out];exact HO4.out
      ·exact (Below.more (Below.more dR.out _) _).grown uu.out (by simp;omega) (fun j hj=>(jO.out.lt j hj).1)
      ·intro i hi;by_cases e:i=k
       ·subst e;exact HU.out
       ·exact HUB.out i (by omega)
      ·right
       have:=HF1.out.1;rcases Xe.out with h | h <;> omega
     case measure=>simp [intOf];omega
   ·have hc:=ES (l.getD k ⟨#[]⟩);have HNU:Hid (¬Ub (l.getD k ⟨#[]⟩)):=hu;obtain ⟨X,hX⟩:∃X,l.getD k ⟨#[]⟩=X:=⟨_,rfl⟩;rw [hX] at hc c0 hu;clear hb;go_wp2_with fail
    refine (hc _ hu).mono ?_;rintro e w3 ⟨rfl,hb3⟩;have dR:Hid (Below w.heap.size w w3):=Below.then HB.out hb3;clear hb3 hc c0;go_wp2_with fail
    go_ret;refine ⟨⟨_,rfl,.inr ⟨fun hf=>?_,rfl⟩⟩,Below.more dR.out _⟩;apply HNU.out
    apply hf.each
    rw [HF.out];have:=hf.one;rw [HF.out] at this;rcases Xe.out with h | h <;> omega
  ·have i2:decide ((k:Int)<(n:Int))=false:=by simp;omega
   clear hb;go_wp2_with fail
   go_ret;refine ⟨⟨_,rfl,.inr ⟨fun hf=>?_,rfl⟩⟩,HB.out⟩;have h1:=hf.one;have h2:=hf.fit;rw [HF.out] at h1 h2;rw [iO.out] at h2;have h3:0<l.length:=List.length_pos_iff.2 hf.ne;rw [iO.out] at h3;rcases Xe.out with h | h <;> omega
theorem lD (a:Option Addr) (cap:Nat) (l:List ByteArray) (q:Int) (w:World) (hl:l.length≤8796093022208) (fV:iC w a l):
  Calls prog 130 #[.slice a l.length cap,.int .i64 q] w fun e w'=>e=.returned (.tuple #[.string (sdS l q),.int .i64 (sdN l q:Nat)])∧Below w.heap.size w w':=by
 have wO:=Lz a cap l w hl fV;obtain ⟨n,hn⟩:∃n,l.length=n:=⟨_,rfl⟩;rw [hn] at wO ⊢;clear hn hl fV;go_enter func130,ntmps130;go_wp2_with fail
 refine wO.mono ?_;rintro e w1 ⟨⟨v,rfl,hv⟩,hb1⟩;have dV:Hid (Below w.heap.size w w1):=hb1;clear hb1 wO;rcases hv with ⟨hf,hrow⟩ | ⟨hf,rfl⟩
 ·unfold Z4 at hrow;obtain ⟨a1,aS,rfl⟩:=eF hrow;have hlen:=hf.len;have adn:fn l≤255:=(Xv (hf.each 0 hf.one)).2;have F7:=nV a1 aS (mq l) (by rw [hlen];omega) w1 (Z4.rd hrow);have HT:Hid (Wh (mq l)→sd l ((mq l).getD 0 fZ).q=some ⟨(ct (mq l)).toArray⟩∧np (⟨(ct (mq l)).toArray⟩:ByteArray).size=(mq l).length):=fun h=>⟨XO hf h rfl,by have:=h.total.2;simpa [ByteArray.size] using this⟩
  obtain ⟨P,hP⟩:∃P,mq l=P:=⟨_,rfl⟩;have HNW:Hid (¬Wh P→sd l q=none):=fun h=>Tj (by rw [hP];exact h)
  have HNQ:Hid ((P.getD 0 fZ).q≠q→sd l q=none):=fun h=>XP (by rw [hP];exact h)
  rw [hP] at F7 HT ⊢;clear hP hlen adn hrow hf;obtain ⟨m,hm⟩:∃m,P.length=m:=⟨_,rfl⟩;rw [hm] at F7 HT ⊢;clear hm;go_wp2_with fail
  refine F7.mono ?_;rintro e w2 ⟨P7,hb2⟩;have bm:Hid (Below w.heap.size w w2):=Below.then dV.out hb2;clear hb2 F7;rcases P7 with ⟨h1,rfl⟩ | ⟨h1,rfl⟩
  ·obtain ⟨e1,e2⟩:=HT.out h1;unfold wA;by_cases hq:(P.getD 0 fZ).q=q
   ·have HE:Hid (sdS l q=⟨(ct P).toArray⟩∧sdN l q=m):=by
     show _∧_
     rw [hq] at e1;exact ⟨vq e1,by rw [vr e1,e2]⟩
    have hq2:((P.getD 0 fZ).q !=q)=false:=by rw [hq];simp
    obtain ⟨Q,hQ⟩:∃Q,(P.getD 0 fZ).q=Q:=⟨_,rfl⟩;obtain ⟨C,hC⟩:∃C:ByteArray,⟨(ct P).toArray⟩=C:=⟨_,rfl⟩;rw [hQ] at hq2 ⊢;rw [hC] at HE ⊢;clear hq e1 e2 hC hQ;go_wp2_with fail
    go_ret2
    rw [HE.out.1,HE.out.2];exact ⟨rfl,bm.out⟩
   ·have HE:Hid (sd l q=none):=HNQ.out hq;have hq2:((P.getD 0 fZ).q !=q)=true:=by simpa using hq
    obtain ⟨Q,hQ⟩:∃Q,(P.getD 0 fZ).q=Q:=⟨_,rfl⟩;obtain ⟨C,hC⟩:∃C:ByteArray,⟨(ct P).toArray⟩=C:=⟨_,rfl⟩;rw [hQ] at hq2 ⊢;rw [hC];clear hq e1 e2 hC hQ;go_wp2_with fail
    go_ret2
    rw [kJ HE.out,kK HE.out];exact ⟨rfl,bm.out⟩
  ·have HE:Hid (sd l q=none):=HNW.out h1;unfold wB;clear h1;go_wp2_with fail
   go_ret2
   rw [kJ HE.out,kK HE.out];exact ⟨rfl,bm.out⟩
 ·have F7:=nV none 0 [] (by simp) w1 (oQ.nil _ _);have HE:Hid (sd l q=none):=Np hf;have Vu:Hid (¬Wh []):=fun h=>h.ne rfl
  simp only [List.length_nil] at F7;clear hf;go_wp2_with fail
  refine F7.mono ?_;rintro e w2 ⟨P7,hb2⟩;have bm:Hid (Below w.heap.size w w2):=Below.then dV.out hb2;clear hb2 F7;rcases P7 with ⟨h1,rfl⟩ | ⟨h1,rfl⟩
  ·exact absurd h1 Vu.out
  ·unfold wB;clear h1;go_wp2_with fail
   go_ret2
   rw [kJ HE.out,kK HE.out];exact ⟨rfl,bm.out⟩
theorem LJ (l:List ByteArray) (k i:Nat):(l.drop k).getD i ⟨#[]⟩=l.getD (k+i) ⟨#[]⟩:=by
 simp [List.getD_eq_getElem?_getD,List.getElem?_drop]
def Ed (l:List ByteArray) (w w':World) (e:Ending):Prop:=∃v,e=.returned (.tuple #[v,.int .i64 ((sc 65535 l 1).2:Nat)])∧ym w' w.heap.size v (sc 65535 l 1).1
open Go.RowKit Go.Maps Go.Shelf
attribute [local go_sem] Oper.semAt_some
set_option linter.unusedVariables false
set_option linter.unusedSimpArgs false
/- What has come of the records, and what is still to come. -/
variable {l:List ByteArray} {a b k n0 o:Nat} {pre:List (Int×ByteArray)} {W W':World}
structure oC (l:List ByteArray) (k a:Nat) (pre:List (Int×ByteArray)):Prop where
 k1:k≤65535
 len:pre.length=k
 at':a≤l.length
 p1:pre++aU (65535 - k) (l.drop a) (k+1) a=aU 65535 l 1 0
theorem oC.start (l:List ByteArray):oC l 0 0 []:=⟨by omega,rfl,Nat.zero_le _,by simp⟩
theorem oC.step (h:oC l k a pre) (hk:k<65535) {s:ByteArray} (hs:sd (l.drop a) ((k+1:Nat):Int)=some s):oC l (k+1) (a+np s.size) (pre++[(((a+np s.size:Nat):Int),s)]):=by
 have h1:=h.p1;have h2:=(rR hs).fit;have h3:=h.at';rw [List.length_drop] at h2;rw [show 65535 - k=(65535 - (k+1))+1 by omega,aU,hs] at h1;simp only [List.drop_drop] at h1;exact ⟨by omega,by simp [h.len],by omega,by rw [List.append_assoc];exact h1⟩
theorem oC.stop (h:oC l k a pre) (hs:sd (l.drop a) ((k+1:Nat):Int)=none):pre=aU 65535 l 1 0:=by
 have h1:=h.p1;by_cases hk:k<65535
 ·rw [show 65535 - k=(65535 - (k+1))+1 by omega,aU,hs] at h1
  simpa using h1
 ·have:=h.k1;obtain rfl:k=65535:=by omega
  rw [Nat.sub_self,aU] at h1
  simpa using h1
theorem oC.full (h:oC l 65535 a pre):pre=aU 65535 l 1 0:=by
 have h1:=h.p1;rw [Nat.sub_self,aU] at h1
 simpa using h1
theorem oC.part (h:oC l k a pre):pre<+:aU 65535 l 1 0:=⟨_,h.p1⟩
theorem grown_of (h:Below W.heap.size W W'):W.grownBy W' none:=⟨h.os,h.tape,h.output,h.size,fun k hk _=>h.block k hk⟩
theorem yH (h:Below n0 W W') (hb:b<n0) (hr:iC W (some ⟨b,o,none⟩) l):iC W' (some ⟨b,o,none⟩) l:=fun i hi=>by
 obtain ⟨b',o',e,c⟩:=hr i hi;cases e
 exact ⟨b,o,rfl,(h.cell (p:=⟨b,o+i,none⟩) hb).trans c⟩
theorem NA (hr:iC W (some ⟨b,o,none⟩) l) (p:Nat):iC W (some ⟨b,o+p,none⟩) (l.drop p):=fun i hi=>by
 rw [List.length_drop] at hi;obtain ⟨b',o',e,c⟩:=hr (p+i) (by omega);cases e
 exact ⟨b,o+p,rfl,by rw [LJ,Nat.add_assoc];exact c⟩
/- What a round keeps: all below n0, and the box that the iterator reads. -/
def Bw (n0 Bs:Nat) (W W':World):Prop:=Below n0 W W'∧∀v,W.cell? ⟨Bs,0,none⟩=some v→W'.cell? ⟨Bs,0,none⟩=some v
theorem Bw.refl (n0 Bs:Nat) (W:World):Bw n0 Bs W W:=⟨Below.refl _ _,fun _ h=>h⟩
theorem Bw.trans {n0 Bs:Nat} {A B C:World} (h:Bw n0 Bs A B) (k:Bw n0 Bs B C):Bw n0 Bs A C:=⟨h.1.trans k.1,fun v hv=>k.2 v (h.2 v hv)⟩
theorem Bw.of {Bs:Nat} {A B:World} (hn:n0≤A.heap.size) (h:Below A.heap.size A B):Bw n0 Bs A B:=⟨h.mono hn,fun v hv=>cell_later h hv⟩
set_option maxRecDepth 100000 in
theorem Cz (n:Nat) (hn:1≤n) (lo Bs n0 b o cap:Nat) (ls:List ByteArray) (YV:ls.length≤cap) (hlen:ls.length≤8796093022208) (hb:b<n0) (J Jx:List (Int×ByteArray)→World→Prop) (W:World) (gZ:n0≤W.heap.size) (hJ:AbidesFrom W.heap.size J)
  (hY:∀pre x W1,J pre W1→pre.length<65535→YieldAt Fence.wide (n - 1) prog lo #[.int .i64 x.1,.string x.2] W1 fun e W'=>
   (e=.returned (.bool true)∧J (pre++[x]) W'∧Bw n0 Bs W1 W')∨(e=.returned (.bool false)∧Jx (pre++[x]) W'))
  (WE:W.cell? ⟨Bs,0,none⟩=some (.slice (some ⟨b,o,none⟩) ls.length cap)) (fV:iC W (some ⟨b,o,none⟩) ls) (h0:J [] W):
  CallsIn Fence.wide n prog 129 #[.func (.yield lo) #[] #[],.pointer (some ⟨Bs,0,none⟩)] W fun e W'=>(∃v,e=.returned v)∧
   ((∃ys,ys=aU 65535 ls 1 0∧J ys W')∨(∃pre,pre<+:aU 65535 ls 1 0∧Jx pre W')):=by
 obtain ⟨N,hN⟩:∃N,ls.length=N:=⟨_,rfl⟩;have iO:Hid (ls.length=N):=hN;have Ek:Hid (iC W (some ⟨b,o,none⟩) ls):=fV;rw [hN] at YV hlen WE;clear hN fV;refine callsIn_of_wp func129 rfl trivial ?_ rfl;simp only [ntmps129,List.size_toArray,List.length_cons,List.length_nil,Nat.reduceAdd,Nat.reduceSub,Array.replicate_succ,Array.replicate_zero,List.push_toArray,List.append_toArray,List.nil_append,List.cons_append]
 gi_wp2
 gi_loopw [3,4] (fun x i wr=>∃(k p:Nat) (pre:List (Int×ByteArray)),oC ls k p pre∧x=.int .i64 (p:Int)∧i=.int .i64 ((k+1:Nat):Int)∧J pre wr∧Bw n0 Bs W wr) (fun _ i _=>65536 - (intOf i).toNat)
 case atStart=>exact ⟨0,0,[],oC.start ls,rfl,rfl,h0,Bw.refl _ _ _⟩
 case round=>
  obtain ⟨k,p,pre,hM,rfl,rfl,hJp,dZ⟩:=hrel;have HM:Hid (oC ls k p pre):=hM;have HJP:Hid (J pre wr):=hJp;have fE:Hid (Bw n0 Bs W wr):=dZ;have oF:Hid (n0≤wr.heap.size):=Nat.le_trans gZ dZ.1.size;have mj:=hM.k1;have hpn:p≤N:=by rw [←iO.out];exact hM.at'
  have cB:wr.cell? ⟨Bs,0,none⟩=some (.slice (some ⟨b,o,none⟩) N cap):=dZ.2 _ WE;clear hM hJp dZ;by_cases hk:k<65535
  ·have j1:decide (((k+1:Nat):Int)≤65535)=true:=by simp;omega
   have j2:IntKind.i64.wrap (((k+1:Nat):Int)+1)=((k+1+1:Nat):Int):=by rw [Bt.bu _ (by omega) (by omega)];omega
   have x5:(0:Int)≤(p:Int):=by omega
   have x6:(p:Int)≤(N:Int):=by omega
   obtain ⟨K,hK⟩:∃K,((k+1:Nat):Int)=K:=⟨_,rfl⟩;obtain ⟨K2,hK2⟩:∃K2,((k+1+1:Nat):Int)=K2:=⟨_,rfl⟩;have HK:Hid (((k+1:Nat):Int)=K):=hK;have ur:Hid (((k+1+1:Nat):Int)=K2):=hK2;rw [hK] at j1 j2 ⊢;rw [hK2] at j2;clear hK hK2;by_cases hpc:p<cap
   ·have y1:¬cap=p:=by omega
    have y2:¬p=cap:=by omega
    have hst:=lD (some ⟨b,o+p,none⟩) (cap - p) (ls.drop p) K wr (by rw [List.length_drop,iO.out];omega) (NA (yH fE.out.1 hb Ek.out) p);rw [List.length_drop,iO.out] at hst
    gi_wp2_with fail
    refine ⟨trivial,(callsIn_wide.2 hst).mono ?_⟩;rintro e w3 ⟨rfl,hb3⟩;have hJ3:J pre w3:=hJ _ _ _ none HJP.out (grown_of hb3) (fun r e=>by cases e);have aag:Hid (Bw n0 Bs W w3):=fE.out.trans (Bw.of oF.out hb3)
    cases AK:sd (ls.drop p) K with
    | none=>
     have HE:Hid (pre=aU 65535 ls 1 0):=HM.out.stop (by rw [HK.out];exact AK);rw [kJ AK,kK AK];clear AK hst
     gi_wp2_with fail
     refine bodyPost_ret (results_none rfl _ _ _) rfl ?_;exact ⟨⟨_,rfl⟩,.inl ⟨_,HE.out,hJ3⟩⟩
    | some s=>
     have RV:Hid (oC ls (k+1) (p+np s.size) (pre++[(((p+np s.size:Nat):Int),s)])):=HM.out.step hk (by rw [HK.out];exact AK);have Uj:=(rR AK).pos;have hat:=RV.out.at';rw [iO.out] at hat;rw [vq AK,vr AK];obtain ⟨m,hm⟩:∃m,np s.size=m:=⟨_,rfl⟩;rw [hm] at RV Uj hat ⊢;have m0:((m:Int)==0)=false:=by simp;omega
     have m1:IntKind.i64.wrap ((p:Int)+(m:Int))=((p+m:Nat):Int):=by rw [←Int.natCast_add];exact Bt.bu _ (by omega) (by omega)
     obtain ⟨PM,Y4⟩:∃PM,((p+m:Nat):Int)=PM:=⟨_,rfl⟩;obtain ⟨fn,tmps,assign,body,hy,hR⟩:=hY pre (PM,s) w3 hJ3 (by rw [HM.out.len];exact hk);dsimp only at hy;have HPM:Hid (((p+m:Nat):Int)=PM):=Y4;rw [Y4] at m1 RV;clear AK hm hst Y4 hJ3
     gi_wp2_with fail
     refine hR.mono ?_;rintro e W4 (⟨rfl,hJ4,hk4⟩ | ⟨rfl,P_⟩)
     ·gi_wp2_with fail
      go_roundw
      case rel=>exact ⟨k+1,p+m,_,RV.out,by rw [HPM.out],by rw [ur.out],hJ4,aag.out.trans hk4⟩
      case measure=>simp [intOf,←HK.out,←ur.out];omega
     ·gi_wp2_with fail
      refine bodyPost_ret (results_none rfl _ _ _) rfl ?_;exact ⟨⟨_,rfl⟩,.inr ⟨_,RV.out.part,P_⟩⟩
   ·have y1:(cap=p)=True:=by simp;omega
    have y2:(p=cap)=True:=by simp;omega
    have hst:=lD (some ⟨b,o,none⟩) (cap - p) (ls.drop p) K wr (by rw [List.length_drop,iO.out];omega) (by rw [List.drop_eq_nil_of_le (by rw [iO.out];omega)];exact iC.nil _ _);rw [List.length_drop,iO.out] at hst
    gi_wp2_with fail
    refine ⟨trivial,(callsIn_wide.2 hst).mono ?_⟩;rintro e w3 ⟨rfl,hb3⟩;have hJ3:J pre w3:=hJ _ _ _ none HJP.out (grown_of hb3) (fun r e=>by cases e);have aag:Hid (Bw n0 Bs W w3):=fE.out.trans (Bw.of oF.out hb3)
    cases AK:sd (ls.drop p) K with
    | none=>
     have HE:Hid (pre=aU 65535 ls 1 0):=HM.out.stop (by rw [HK.out];exact AK);rw [kJ AK,kK AK];clear AK hst
     gi_wp2_with fail
     refine bodyPost_ret (results_none rfl _ _ _) rfl ?_;exact ⟨⟨_,rfl⟩,.inl ⟨_,HE.out,hJ3⟩⟩
    | some s=>
     have RV:Hid (oC ls (k+1) (p+np s.size) (pre++[(((p+np s.size:Nat):Int),s)])):=HM.out.step hk (by rw [HK.out];exact AK);have Uj:=(rR AK).pos;have hat:=RV.out.at';rw [iO.out] at hat;rw [vq AK,vr AK];obtain ⟨m,hm⟩:∃m,np s.size=m:=⟨_,rfl⟩;rw [hm] at RV Uj hat ⊢;have m0:((m:Int)==0)=false:=by simp;omega
     have m1:IntKind.i64.wrap ((p:Int)+(m:Int))=((p+m:Nat):Int):=by rw [←Int.natCast_add];exact Bt.bu _ (by omega) (by omega)
     obtain ⟨PM,Y4⟩:∃PM,((p+m:Nat):Int)=PM:=⟨_,rfl⟩;obtain ⟨fn,tmps,assign,body,hy,hR⟩:=hY pre (PM,s) w3 hJ3 (by rw [HM.out.len];exact hk);dsimp only at hy;have HPM:Hid (((p+m:Nat):Int)=PM):=Y4;rw [Y4] at m1 RV;clear AK hm hst Y4 hJ3
     gi_wp2_with fail
     refine hR.mono ?_;rintro e W4 (⟨rfl,hJ4,hk4⟩ | ⟨rfl,P_⟩)
     ·gi_wp2_with fail
      go_roundw
      case rel=>exact ⟨k+1,p+m,_,RV.out,by rw [HPM.out],by rw [ur.out],hJ4,aag.out.trans hk4⟩
      case measure=>simp [intOf,←HK.out,←ur.out];omega
     ·gi_wp2_with fail
      refine bodyPost_ret (results_none rfl _ _ _) rfl ?_;exact ⟨⟨_,rfl⟩,.inr ⟨_,RV.out.part,P_⟩⟩
  ·have j1:decide (((k+1:Nat):Int)≤65535)=false:=by simp;omega
   obtain rfl:k=65535:=by omega
   gi_wp2_with fail
   go_end0
   exact ⟨⟨_,rfl⟩,.inl ⟨pre,HM.out.full,HJP.out⟩⟩
attribute [local go_sem] Oper.semAt_some
set_option linter.unusedVariables false
set_option linter.unusedSimpArgs false
variable {n0:Nat} {W w:World} {l:List ByteArray}
theorem E8 (q:Int):sd [] q=none:=Cp fun s h=>by have:=h.fit;have:=h.pos;simp at *;omega
theorem Ty:aU 65535 [] 1 0=[]:=by rw [aU,E8]
set_option maxRecDepth 100000 in
theorem Aa (n:Nat) (hn:1≤n) (lo Bs:Nat) (J:List (Int×ByteArray)→World→Prop) (W:World) (hJ:AbidesFrom W.heap.size J)
  (WE:W.cell? ⟨Bs,0,none⟩=some (.slice none 0 0)) (h0:J [] W):
  CallsIn Fence.wide n prog 129 #[.func (.yield lo) #[] #[],.pointer (some ⟨Bs,0,none⟩)] W fun e W'=>(∃v,e=.returned v)∧J [] W':=by
 have hst:=lD none 0 [] 1 W (by simp) (iC.nil _ _);rw [kJ (E8 _),kK (E8 _)] at hst;simp only [List.length_nil] at hst;refine callsIn_of_wp func129 rfl trivial ?_ rfl;simp only [ntmps129,List.size_toArray,List.length_cons,List.length_nil,Nat.reduceAdd,Nat.reduceSub,Array.replicate_succ,Array.replicate_zero,List.push_toArray,List.append_toArray,List.nil_append,List.cons_append]
 gi_wp2
 gi_loopw [3,4] (fun x i wr=>x=.int .i64 0∧i=.int .i64 1∧wr=W) (fun _ i _=>0)
 case atStart=>exact ⟨rfl,rfl,rfl⟩
 case round=>
  obtain ⟨rfl,rfl,rfl⟩:=hrel
  gi_wp2_with fail
  refine ⟨trivial,(callsIn_wide.2 hst).mono ?_⟩;rintro e w3 ⟨rfl,hb3⟩;have hJ3:J [] w3:=hJ _ _ _ none h0 (grown_of hb3) (fun r e=>by cases e);clear hst
  gi_wp2_with fail
  refine bodyPost_ret (results_none rfl _ _ _) rfl ?_;exact ⟨⟨_,rfl⟩,hJ3⟩
theorem Fe (n:Nat) (a:Option Addr) (len cap:Nat) (w:World):
  CallsIn Fence.wide n prog 96 #[.slice a len cap] w fun e w'=>e=.returned (.func (.func 129) #[] #[.pointer (some ⟨w.heap.size,0,none⟩)])∧w'=w.alloc (.cells #[.slice a len cap] 114):=by
 refine callsIn_of_wp func96 rfl trivial ?_ rfl;simp only [ntmps96,List.size_toArray,List.length_cons,List.length_nil,Nat.reduceAdd,Nat.reduceSub,Array.replicate_succ,Array.replicate_zero,List.push_toArray,List.append_toArray,List.nil_append,List.cons_append]
 gi_wp2
 go_ret;exact ⟨rfl,rfl⟩
/- A slice of texts, as an argument: nil, or somewhere below n0. -/
def Z2 (n0:Nat) (W:World) (a:Option Addr) (cap:Nat) (l:List ByteArray):Prop:=
 (a=none∧cap=0∧l=[])∨∃b o,a=some ⟨b,o,none⟩∧b<n0∧l.length≤cap∧iC W (some ⟨b,o,none⟩) l
theorem Z2.below {W':World} {a:Option Addr} {cap:Nat} (h:Z2 n0 W a cap l) (hb:Below n0 W W'):Z2 n0 W' a cap l:=by
 rcases h with h | ⟨b,o,e,h1,h2,h3⟩
 ·exact .inl h
 ·exact .inr ⟨b,o,e,h1,h2,yH hb h1 h3⟩
theorem xW (n:Nat) (hn:1≤n) (Bs n0:Nat) (a:Option Addr) (cap:Nat) (l:List ByteArray) (hlen:l.length≤8796093022208) (w:World) (WE:Bs<w.heap.size) (gZ:n0≤w.heap.size)
  (hc:w.cell? ⟨Bs,0,none⟩=some (.slice a l.length cap)) (hA:Z2 n0 w a cap l):
  SeqStopsK Fence.wide n prog 129 #[.pointer (some ⟨Bs,0,none⟩)] (fun x:Int×ByteArray=>#[Value.int .i64 x.1,Value.string x.2]) (Bw n0 Bs) (fun ys=>ys=aU 65535 l 1 0) (fun pre=>pre<+:aU 65535 l 1 0) 65535 w:=fun lo J Jx W hW hJ _ hY h0=>by
 have hc':=(hW.cell (p:=⟨Bs,0,none⟩) WE).trans hc;rcases hA.below (hW.mono gZ) with ⟨rfl,rfl,rfl⟩ | ⟨b,o,rfl,hb,YV,fV⟩
 ·exact (Aa n hn lo Bs J W hJ hc' h0).mono fun e W' ⟨he,hj⟩=>⟨he,.inl ⟨_,Ty.symm,hj⟩⟩
 ·exact Cz n hn lo Bs n0 b o cap l YV hlen hb J Jx W (Nat.le_trans gZ hW.size) hJ hY hc' fV h0
theorem aaY {Bs:Nat} (hn:n0≤w.heap.size) (hB:Bs<w.heap.size):∀(W:World) (l:Nat) (o o':Obj),w.heap.size≤l→W.heap[l]? =some o→o.isCells=false→o.isWalk=false→Bw n0 Bs W (W.putObj l o'):=fun W l o o' h1 h2 h3 h4=>
 ⟨belowK_b hn W l o o' h1 h2 h3 h4,fun v hv=>by
  have:(W.putObj l o').heap[Bs]? =W.heap[Bs]? :=World.putObj_heap_other (by omega);unfold World.cell? at hv ⊢;rw [this]
  exact hv⟩
def FC (pre:List (Int×ByteArray)):List ByteArray:=pre.map fun p=>p.2
theorem Oc (pre:List (Int×ByteArray)) (x:Int×ByteArray):FC (pre++[x])=FC pre++[x.2]:=by simp [FC]
theorem TH (pre:List (Int×ByteArray)):(FC pre).length=pre.length:=by simp [FC]
theorem Ed.of {w':World} {v:Value} {ys:List (Int×ByteArray)} (e:ys=aU 65535 l 1 0) (hr:w'.ownsRow w.heap.size 9 1 v (FC ys).length (bW (FC ys))):Ed l w w' (.returned (.tuple #[v,.int .i64 (qs 0 ys)])):=by
 subst e;obtain ⟨h1,h2⟩:=NG 65535 l 1 0;have h3:FC (aU 65535 l 1 0)=(sc 65535 l 1).1:=h1;rw [h3] at hr;refine ⟨v,?_,hr⟩;have h4:qs 0 (aU 65535 l 1 0)=((sc 65535 l 1).2:Int):=by simpa using h2
 rw [h4]
theorem cM {A B:Nat} {t:TypeId} {u:Value} (hB:Boxed W B t u) (hne:A≠B) (v':Value):Boxed (W.setCell ⟨A,0,none⟩ v') B t u:=hB.kept (grownBy_setCell' W A v') (by simp;omega)
set_option maxRecDepth 100000 in
theorem scan_in (n:Nat) (hn:3≤n) (a:Option Addr) (cap:Nat) (l:List ByteArray) (w:World) (hlen:l.length≤8796093022208) (hA:Z2 w.heap.size w a cap l):
  CallsIn Fence.wide n prog 61 #[.slice a l.length cap] w fun e w'=>Ed l w w' e∧Below w.heap.size w w':=by
 have h1:1≤n:=by omega
 obtain ⟨i0,hi,hz0,hz1,hz2⟩:=info_parts IG;refine callsIn_of_wp_marks func61 rfl trivial ?_ rfl;simp only [ntmps61,List.size_toArray,List.length_cons,List.length_nil,Nat.reduceAdd,Nat.reduceSub,Array.replicate_succ,Array.replicate_zero,List.push_toArray,List.append_toArray,List.nil_append,List.cons_append]
 gi_wp2_with fail
 refine ⟨trivial,(Fe (n - 1) _ _ _ _).mono ?_⟩;rintro e w' ⟨rfl,rfl⟩;have bP:=Boxed.new w 114 (.slice none 0 0);have bE:=Boxed.new (w.alloc (.cells #[.slice none 0 0] 114)) 3 (.int .i64 0);have bI:=Boxed.new ((w.alloc (.cells #[.slice none 0 0] 114)).alloc (.cells #[.int .i64 0] 3)) 114 (.slice a l.length cap);simp only [World.size_alloc] at bE bI;have Qe:Below w.heap.size w (((w.alloc (.cells #[.slice none 0 0] 114)).alloc (.cells #[.int .i64 0] 3)).alloc (.cells #[.slice a l.length cap] 114)):=(((Below.refl _ w).alloc (Nat.le_refl _) _).alloc (by simp) _).alloc (by simp;omega) _
 gi_wp2_with fail
 refine wpIn_rangeFunc_ownG rfl h1 (gf:=129) (lb:=#[.pointer (some ⟨w.heap.size+1+1,0,none⟩)]) (by simp [go_sem]) trivial (enters_of func129 (by kernel_rfl) rfl)
  (xW (n - 1) (by omega) (w.heap.size+1+1) w.heap.size a cap l hlen _ (by simp) (by simp;omega) bI.cell (hA.below Qe)) Bw.trans (aaY (by simp;omega) (by simp)) (Below.refl _ _) (fun _=>rfl)
  (fun pre W=>((∃v,Boxed W w.heap.size 114 v∧W.ownsRow w.heap.size 9 1 v (FC pre).length (bW (FC pre))∧True)∧Boxed W (w.heap.size+1) 3 (.int .i64 (qs 0 pre))∧Boxed W (w.heap.size+1+1) 114 (.slice a l.length cap))∧Below w.heap.size w W)
  (fun _ _ _=>False)
  (OwnFrom.and (OwnFrom.and (Own.from (holdsRow_own w.heap.size w.heap.size 114 9 1 (fun pre=>(FC pre).length) (fun pre=>bW (FC pre)) (fun pre v=>True)) _) (OwnFrom.and (Own.from (boxed_own _ _ _) _) (Own.from (boxed_own _ _ _) _))) (ownFrom_below (Nat.le_refl _) (by simp;omega)))
  (fun _ _ _ _ _ hs _ _=>hs)
  ⟨⟨⟨_,(bP.alloc _).alloc _,World.ownsRow_nil _ _ _ _,trivial⟩,bE.alloc _,bI⟩,Qe⟩
  (fun x=>{tmps:=#[.slice a l.length cap,undef,.slice none 0 0,.int .i64 0,.pointer (some ⟨w.heap.size,0,none⟩),.pointer (some ⟨w.heap.size+1,0,none⟩),.int .i64 x.1,.string x.2,.slice a l.length cap,.func (.func 129) #[] #[.pointer (some ⟨w.heap.size+1+1,0,none⟩)],.int .i64 x.1,.string x.2,undef,undef,undef,undef,undef,undef,undef],defers:=[]}) ?assign ?body ?done ?stop
 case assign=>
  intro lo x W K hK
  gi_wp2
  exact hK
 case body=>
  rintro lo pre x W ⟨⟨⟨v,hv,hrow,-⟩,hE,hI⟩,hB⟩ hlt;have hc:=hv.cell;have hpl:(FC pre).length<65535:=by rw [TH];exact hlt
  gi_wp2_with (gi_at_builtin;refine wpListIn_append_own _ rfl _ _ 114 rfl w.heap.size 9 i0 _ 1 16 underlying114 hi hz0 hz1 hz2 rfl (by decide) _ _ _ rfl (hrow.alloc _) ⟨W.heap.size,0,none⟩ 1 1 [.string x.2] rfl rfl (cell_one_new _ _ _) (by simp [Value.oneCell']) (by unfold maxLen;omega) (by omega) (by have:=hB.size;simp;omega) ?_;intro v' w1 hown' hgrow _;obtain ⟨g',cap',rfl⟩:=ownsRow_succ hown';obtain ⟨hv1,hv2,hr2,hk2,hb2⟩:=hv.appended (by decide) hrow hB.size (Nat.le_refl _) hown' hgrow;have hc1:=hv1.cell;have Ux:=hv1.frozen;have UH:=(hE.alloc _).kept hgrow (hE.not_row (by decide) hrow);have hc2:=UH.cell;have hf2:=UH.frozen;have hI1:=(hI.alloc _).kept hgrow (hI.not_row (by decide) hrow))
  have oz:=cM UH (A:=w.heap.size) (by omega) (.slice (some ⟨g',0,none⟩) ((FC pre).length+1) cap');have hI2:=cM (cM hI1 (A:=w.heap.size) (by omega) (.slice (some ⟨g',0,none⟩) ((FC pre).length+1) cap')) (A:=w.heap.size+1) (by omega) (.int .i64 x.1);have hb3:=hb2.setCell (p:=⟨w.heap.size+1,0,none⟩) (by show w.heap.size≤w.heap.size+1;omega) (.int .i64 x.1);refine ⟨(hk2.trans (KeepsOthers.setCell _ _ _)).from _,⟨hb3,fun u hu=>?_⟩,⟨⟨_,cM hv2 (by omega) _,?_,trivial⟩,?_,hI2⟩,hB.trans hb3⟩
  ·rw [hI.cell] at hu;rw [←hu];exact hI2.cell
  ·rw [Oc];have hr3:=hr2.kept (grownBy_setCell' _ (w.heap.size+1) (.int .i64 x.1)) (.inr (oz.not_row (by decide) hr2).symm);rw [oO,List.length_append];exact hr3
  ·rw [FZ];exact oz.set _
 case done=>
  rintro D ys W hD rfl ⟨⟨⟨v,hv,hrow,-⟩,hE,hI⟩,hB⟩ hK;have hc:=hv.cell;have hc2:=hE.cell
  gi_wp2
  gi_region
  all_goals gi_wp2
  have Ss:Below W.heap.size W W.drew:=⟨rfl,rfl,rfl,Nat.le_refl _,fun _ _=>rfl⟩;have fV:=aQ hrow Ss;have I1:W.drew.heap[D]? =some (.deferred (some [])):=hK;have WG:Below w.heap.size w W.drew:=Below.then hB Ss;obtain ⟨Wd,hWd⟩:∃Wd,W.drew=Wd:=⟨_,rfl⟩;rw [hWd] at fV I1 WG ⊢;refine ⟨by simp,.inl ⟨_,_,rfl,run_takeDeferred I1,?_⟩⟩;exact ⟨_,results_tmp2 rfl _ _ _,Ed.of rfl (ownsRow_putObj fV _ I1 rfl),WG.trans (belowK_b (w:=w) (Nat.le_refl _) Wd D _ _ (by simp at hD;omega) I1 rfl rfl)⟩
 case stop=>
  rintro D c pre W _ _ h _;exact h.elim
theorem Nq (a:Option Addr) (cap:Nat) (l:List ByteArray) (w:World) (hlen:l.length≤8796093022208) (hA:Z2 w.heap.size w a cap l):
  Calls prog 61 #[.slice a l.length cap] w fun e w'=>Ed l w w' e∧Below w.heap.size w w':=callsIn_wide.1 (scan_in 3 (by omega) a cap l w hlen hA)
end Go.Proofs.YtanaapfobpgibaaGreatDoor.Jr
