/- FrY, FrX, FrX2, FrV, FrU, joined. -/
import Derived.Test.YtoimkngkcliinaaGreatDoorJFrA
import Derived.Test.YtoimkngkcliinaaGreatDoorJFrD
import Derived.Deep.AppendLies
import Derived.Laws.OwnMore
import Derived.Test.YtoimkngkcliinaaGreatDoorJFrB
import Derived.Test.YtoimkngkcliinaaGreatDoorJSumMath
import Derived.Laws.IdiomStrings
import Derived.Lib.AppendStr
import Derived.BigQuiet
import Derived.Deep.QuietTactic
import Derived.WalkSmall
import Derived.RangeFuncNested
import Derived.RangeFuncBound
import Derived.RangeFuncCalls
import Derived.RangeFuncLeaves
import Derived.RangeFuncBox
import Derived.Shelf.Abstract
import Derived.Shelf.RegionOpen
import Derived.WalkKit
import Derived.OwnWalkIn
import Derived.TacticsInMore
import Derived.LoopNIn
import Derived.LoopIn
import Derived.Maps.AppendAt
namespace Go.Proofs.YtoimkngkcliinaaGreatDoor.Jr
open Go.RowKit Go.Maps
set_option linter.unusedVariables false
set_option maxRecDepth 4000
set_option linter.unusedSimpArgs false
theorem row_n {w:World} {N g cap n:Nat} {L:List Pc} (h:w.ownsRow N 306 4 (.slice (some ⟨g,0,none⟩) n cap) n (cellsP L)) (hL:L.length=n) (h0:0<n):w.cell? ⟨g,2,none⟩=some (.int .i64 (L.getD 0 pc0).n):=by
 subst hL;obtain ⟨b,o,e,h1⟩:=RwP.rd (l:=L) h 0 h0;cases e
 have:=h1.c2
 simpa using this
def FrontP (l:List ByteArray) (w w':World) (e:Ending):Prop:=∃v,e=.returned v∧((Fro l∧RwP w' w.heap.size v (frp l))∨(¬Fro l∧v=.slice none 0 0))
set_option maxHeartbeats 2000000 in
theorem front_any (a:Option Addr) (cap:Nat) (l:List ByteArray) (w:World) (hl:l.length≤8796093022208) (hrd:RdS w a l):
  Calls Tryz.prog 295 #[.slice a l.length cap] w fun e w'=>FrontP l w w' e∧Below w.heap.size w w':=by
 obtain ⟨i0,hi,hz0,hz1,hz2⟩:=info_parts infoP;obtain ⟨n,hn⟩:∃n,l.length=n:=⟨_,rfl⟩;have HLN:Hid (l.length=n):=hn;have HRD:Hid (RdS w a l):=hrd;obtain ⟨F,hF⟩:∃F,fn l=F:=⟨_,rfl⟩;have HF:Hid (fn l=F):=hF;rw [hn];rw [hn] at hl;clear hn hrd hF;go_enter Tryz.func295,Tryz.ntmps295;go_wp2_with fail
 go_loopw [3,10] (fun v i wr=>∃k:Nat,k≤n∧i=.int .i64 (k:Int)∧wr.ownsRow w.heap.size 306 4 v k (cellsP ((l.take k).map fpc))∧Below w.heap.size w wr∧(∀i,i<k→Ub (l.getD i ⟨#[]⟩))∧(k=0∨k<F)) (fun _ i _=>n - (intOf i).toNat)
 case atStart=>exact ⟨0,by omega,rfl,World.ownsRow_nil _ _ _ _,Below.refl _ _,fun i hi=>by omega,.inl rfl⟩
 case round=>
  obtain ⟨k,hk,rfl,hrow,hb,hub,hkF⟩:=hrel;have HROW:Hid (wr.ownsRow w.heap.size 306 4 u3 k (cellsP ((l.take k).map fpc))):=hrow;have HB:Hid (Below w.heap.size w wr):=hb;have HUB:Hid (∀i,i<k→Ub (l.getD i ⟨#[]⟩)):=hub;have HKF:Hid (k=0∨k<F):=hkF;clear hrow hub hkF;by_cases hkn:k<n
  ·obtain ⟨b,o,ea,c0⟩:=(HRD.out.later hb) k (by rw [HLN.out];exact hkn);subst ea;have j1:(0:Int)≤(k:Int):=by omega
   have j2:(k:Int)<(n:Int):=by omega
   by_cases hu:Ub (l.getD k ⟨#[]⟩)
   ·have hc:∀W,Calls Tryz.prog 329 #[.string (l.getD k ⟨#[]⟩)] W fun e w'=>e=.returned (.tuple #[.agg #[.int .i64 (fpc (l.getD k ⟨#[]⟩)).q,.int .i64 (fpc (l.getD k ⟨#[]⟩)).p,.int .i64 (fpc (l.getD k ⟨#[]⟩)).n,.string (fpc (l.getD k ⟨#[]⟩)).d],.int .i64 0])∧Below W.heap.size W w':=fun W=>unblock_yes _ W hu
    have HS:Hid ((l.take (k+1)).map fpc=(l.take k).map fpc++[fpc (l.getD k ⟨#[]⟩)]):=by
     show _=_
     rw [take_snoc l k ⟨#[]⟩ (by rw [HLN.out];exact hkn),List.map_append];rfl
    have HX:Hid (cellsP [fpc (l.getD k ⟨#[]⟩)]=[.int .i64 (fpc (l.getD k ⟨#[]⟩)).q,.int .i64 (fpc (l.getD k ⟨#[]⟩)).p,.int .i64 (fpc (l.getD k ⟨#[]⟩)).n,.string (fpc (l.getD k ⟨#[]⟩)).d]):=rfl
    have HFI:Hid ((((l.take k).map fpc++[fpc (l.getD k ⟨#[]⟩)]).getD 0 pc0).n=(F:Int)):=by
     show _=_
     rw [←HS.out,←HF.out];unfold fn;have h0:0<l.length:=by rw [HLN.out];omega
     rw [show ((l.take (k+1)).map fpc).getD 0 pc0=fpc (l.getD 0 ⟨#[]⟩) by simp [List.getD_eq_getElem?_getD,List.getElem?_take,List.getElem?_eq_getElem h0]];rfl
    have HLL:Hid (((l.take k).map fpc++[fpc (l.getD k ⟨#[]⟩)]).length=k+1):=by
     show _=_
     rw [List.length_append,List.length_map,List.length_take,HLN.out];simp;omega
    have HF1:Hid (1≤F∧(k=0→(fpc (l.getD k ⟨#[]⟩)).n=(F:Int))):=by
     show _∧_
     have h0:Ub (l.getD 0 ⟨#[]⟩):=by
      rcases Nat.eq_zero_or_pos k with h | h
      ·rw [h] at hu;exact hu
      ·exact HUB.out 0 h
     refine ⟨by rw [←HF.out];exact (ub_n h0).1,fun e=>?_⟩;subst e;rw [←HF.out];rfl
    have HU:Hid (Ub (l.getD k ⟨#[]⟩)):=hu
    have hk255:k≤255:=by
     rcases HKF.out with h | h
     ·omega
     ·have h0:Ub (l.getD 0 ⟨#[]⟩):=by
       rcases Nat.eq_zero_or_pos k with h' | h'
       ·rw [h'] at hu;exact hu
       ·exact HUB.out 0 h'
      have h1:=(ub_n h0).2;have h2:=HF.out;unfold fn at h2;omega
    obtain ⟨x,hx⟩:∃x,fpc (l.getD k ⟨#[]⟩)=x:=⟨_,rfl⟩;obtain ⟨X,hX⟩:∃X,l.getD k ⟨#[]⟩=X:=⟨_,rfl⟩;simp only [hx] at hc;simp only [hX] at hc c0;rw [hx] at HS HX HFI HLL HF1;clear hx hb hu;obtain ⟨q1,p1,m1,d1⟩:=x;go_wp2_with fail
    refine (hc _).mono ?_;rintro e w3 ⟨rfl,hb3⟩;have HROW3:Hid (w3.ownsRow w.heap.size 306 4 u3 k (cellsP ((l.take k).map fpc))):=row_later HROW.out hb3;have HB3:Hid (Below w.heap.size w w3):=Below.then HB.out hb3;have hs3:w.heap.size≤w3.heap.size:=HB3.out.size;clear hb3 hc c0;by_cases hf:k+1=F
    ·have hf2:((k:Int)+1==(F:Int))=true:=by simp;omega
     go_wp2_with (at_builtin;refine wpList_append_lies _ rfl _ _ _ rfl w.heap.size 306 i0 _ 4 40 Tryz.underlying302 hi hz0 hz1 hz2 rfl (by omega) _ k _ rfl ((HROW3.out.alloc _).alloc _) ⟨w3.heap.size+1,0,none⟩ 1 1 [.int .i64 q1,.int .i64 p1,.int .i64 m1,.string d1] rfl rfl (cell_four_at _ _ _ _ _ _ _ (by simp)) (by simp [Value.oneCell']) (by omega) (by unfold maxLen;omega) (by omega) (by simp;omega) (w3.heap.size+2) (by simp) ?_;intro g4 cap4 w4 hown4 hgrow4 hat4 hlt4;have HG4:Hid _:=hgrow4;have hown5:w4.ownsRow w.heap.size 306 4 (.slice (some ⟨g4,0,none⟩) (k+1) cap4) (k+1) (cellsP ((l.take k).map fpc++[⟨q1,p1,m1,d1⟩])):=(by rw [cellsP_append];exact hown4);have HO4:Hid (w4.ownsRow w.heap.size 306 4 (.slice (some ⟨g4,0,none⟩) (k+1) cap4) (k+1) (cellsP ((l.take k).map fpc++[⟨q1,p1,m1,d1⟩]))):=hown5;have hc4:=row_n hown5 HLL.out (by omega);rw [HFI.out] at hc4;clear hown4 hown5 hgrow4 hat4 hlt4)
     go_ret
     have e1:Fro l:=⟨fun e=>by have:=HLN.out;rw [e] at this;simp at this;omega,by rw [HF.out];omega,by rw [HF.out,HLN.out];omega,fun i hi=>by
      rw [HF.out] at hi;by_cases e:i=k
      ·subst e;exact HU.out
      ·exact HUB.out i (by omega)⟩
     refine ⟨⟨_,rfl,.inl ⟨e1,?_⟩⟩,(Below.more (Below.more HB3.out _) _).grown HG4.out (by simp;omega) (fun j hj=>(HROW3.out.lt j hj).1)⟩;have e2:frp l=(l.take k).map fpc++[⟨q1,p1,m1,d1⟩]:=by unfold frp;rw [HF.out,←hf,HS.out]
     unfold RwP;rw [e2,HLL.out];have h9:=HO4.out;rw [hf] at h9 ⊢;exact h9
    ·have hf2:((k:Int)+1==(F:Int))=false:=by simp;omega
     go_wp2_with (at_builtin;refine wpList_append_lies _ rfl _ _ _ rfl w.heap.size 306 i0 _ 4 40 Tryz.underlying302 hi hz0 hz1 hz2 rfl (by omega) _ k _ rfl ((HROW3.out.alloc _).alloc _) ⟨w3.heap.size+1,0,none⟩ 1 1 [.int .i64 q1,.int .i64 p1,.int .i64 m1,.string d1] rfl rfl (cell_four_at _ _ _ _ _ _ _ (by simp)) (by simp [Value.oneCell']) (by omega) (by unfold maxLen;omega) (by omega) (by simp;omega) (w3.heap.size+2) (by simp) ?_;intro g4 cap4 w4 hown4 hgrow4 hat4 hlt4;have HG4:Hid _:=hgrow4;have hown5:w4.ownsRow w.heap.size 306 4 (.slice (some ⟨g4,0,none⟩) (k+1) cap4) (k+1) (cellsP ((l.take k).map fpc++[⟨q1,p1,m1,d1⟩])):=(by rw [cellsP_append];exact hown4);have HO4:Hid (w4.ownsRow w.heap.size 306 4 (.slice (some ⟨g4,0,none⟩) (k+1) cap4) (k+1) (cellsP ((l.take k).map fpc++[⟨q1,p1,m1,d1⟩]))):=hown5;have hc4:=row_n hown5 HLL.out (by omega);rw [HFI.out] at hc4;clear hown4 hown5 hgrow4 hat4 hlt4)
     go_roundw
     case rel=>
      refine ⟨k+1,by omega,by go_num,?_,?_,?_,?_⟩
      ·rw [HS.out];exact HO4.out
      ·exact (Below.more (Below.more HB3.out _) _).grown HG4.out (by simp;omega) (fun j hj=>(HROW3.out.lt j hj).1)
      ·intro i hi;by_cases e:i=k
       ·subst e;exact HU.out
       ·exact HUB.out i (by omega)
      ·right
       have:=HF1.out.1;rcases HKF.out with h | h <;> omega
     case measure=>simp [intOf];omega
   ·have hc:=unblock_no (l.getD k ⟨#[]⟩);have HNU:Hid (¬Ub (l.getD k ⟨#[]⟩)):=hu;obtain ⟨X,hX⟩:∃X,l.getD k ⟨#[]⟩=X:=⟨_,rfl⟩;rw [hX] at hc c0 hu;clear hb;go_wp2_with fail
    refine (hc _ hu).mono ?_;rintro e w3 ⟨rfl,hb3⟩;have HB3:Hid (Below w.heap.size w w3):=Below.then HB.out hb3;clear hb3 hc c0;go_wp2_with fail
    go_ret;refine ⟨⟨_,rfl,.inr ⟨fun hf=>?_,rfl⟩⟩,Below.more HB3.out _⟩;apply HNU.out
    apply hf.each
    rw [HF.out];have:=hf.one;rw [HF.out] at this;rcases HKF.out with h | h <;> omega
  ·have i2:decide ((k:Int)<(n:Int))=false:=by simp;omega
   clear hb;go_wp2_with fail
   go_ret;refine ⟨⟨_,rfl,.inr ⟨fun hf=>?_,rfl⟩⟩,HB.out⟩;have h1:=hf.one;have h2:=hf.fit;rw [HF.out] at h1 h2;rw [HLN.out] at h2;have h3:0<l.length:=List.length_pos_iff.2 hf.ne;rw [HLN.out] at h3;rcases HKF.out with h | h <;> omega
theorem standing_any (a:Option Addr) (cap:Nat) (l:List ByteArray) (q:Int) (w:World) (hl:l.length≤8796093022208) (hrd:RdS w a l):
  Calls Tryz.prog 240 #[.slice a l.length cap,.int .i64 q] w fun e w'=>e=.returned (.tuple #[.string (sdS l q),.int .i64 (sdN l q:Nat)])∧Below w.heap.size w w':=by
 have hfr:=front_any a cap l w hl hrd;obtain ⟨n,hn⟩:∃n,l.length=n:=⟨_,rfl⟩;rw [hn] at hfr ⊢;clear hn hl hrd;go_enter Tryz.func240,Tryz.ntmps240;go_wp2_with fail
 refine hfr.mono ?_;rintro e w1 ⟨⟨v,rfl,hv⟩,hb1⟩;have HB1:Hid (Below w.heap.size w w1):=hb1;clear hb1 hfr;rcases hv with ⟨hf,hrow⟩ | ⟨hf,rfl⟩
 ·unfold RwP at hrow;obtain ⟨a1,cap1,rfl⟩:=row_spell hrow;have hlen:=hf.len;have h255:fn l≤255:=(ub_n (hf.each 0 hf.one)).2;have hwh:=whole_any a1 cap1 (frp l) (by rw [hlen];omega) w1 (RwP.rd hrow);have HT:Hid (Wh (frp l)→sd l ((frp l).getD 0 pc0).q=some ⟨(ct (frp l)).toArray⟩∧np (⟨(ct (frp l)).toArray⟩:ByteArray).size=(frp l).length):=fun h=>⟨sd_yes hf h rfl,by have:=h.total.2;simpa [ByteArray.size] using this⟩
  obtain ⟨P,hP⟩:∃P,frp l=P:=⟨_,rfl⟩;have HNW:Hid (¬Wh P→sd l q=none):=fun h=>sd_nowh (by rw [hP];exact h)
  have HNQ:Hid ((P.getD 0 pc0).q≠q→sd l q=none):=fun h=>sd_noq (by rw [hP];exact h)
  rw [hP] at hwh HT ⊢;clear hP hlen h255 hrow hf;obtain ⟨m,hm⟩:∃m,P.length=m:=⟨_,rfl⟩;rw [hm] at hwh HT ⊢;clear hm;go_wp2_with fail
  refine hwh.mono ?_;rintro e w2 ⟨hP2,hb2⟩;have HB2:Hid (Below w.heap.size w w2):=Below.then HB1.out hb2;clear hb2 hwh;rcases hP2 with ⟨h1,rfl⟩ | ⟨h1,rfl⟩
  ·obtain ⟨e1,e2⟩:=HT.out h1;unfold wA;by_cases hq:(P.getD 0 pc0).q=q
   ·have HE:Hid (sdS l q=⟨(ct P).toArray⟩∧sdN l q=m):=by
     show _∧_
     rw [hq] at e1;exact ⟨sdS_some e1,by rw [sdN_some e1,e2]⟩
    have hq2:((P.getD 0 pc0).q !=q)=false:=by rw [hq];simp
    obtain ⟨Q,hQ⟩:∃Q,(P.getD 0 pc0).q=Q:=⟨_,rfl⟩;obtain ⟨C,hC⟩:∃C:ByteArray,⟨(ct P).toArray⟩=C:=⟨_,rfl⟩;rw [hQ] at hq2 ⊢;rw [hC] at HE ⊢;clear hq e1 e2 hC hQ;go_wp2_with fail
    go_ret2
    rw [HE.out.1,HE.out.2];exact ⟨rfl,HB2.out⟩
   ·have HE:Hid (sd l q=none):=HNQ.out hq;have hq2:((P.getD 0 pc0).q !=q)=true:=by simpa using hq
    obtain ⟨Q,hQ⟩:∃Q,(P.getD 0 pc0).q=Q:=⟨_,rfl⟩;obtain ⟨C,hC⟩:∃C:ByteArray,⟨(ct P).toArray⟩=C:=⟨_,rfl⟩;rw [hQ] at hq2 ⊢;rw [hC];clear hq e1 e2 hC hQ;go_wp2_with fail
    go_ret2
    rw [sdS_none HE.out,sdN_none HE.out];exact ⟨rfl,HB2.out⟩
  ·have HE:Hid (sd l q=none):=HNW.out h1;unfold wB;clear h1;go_wp2_with fail
   go_ret2
   rw [sdS_none HE.out,sdN_none HE.out];exact ⟨rfl,HB2.out⟩
 ·have hwh:=whole_any none 0 [] (by simp) w1 (RdP.nil _ _);have HE:Hid (sd l q=none):=sd_nofro hf;have HN0:Hid (¬Wh []):=fun h=>h.ne rfl
  simp only [List.length_nil] at hwh;clear hf;go_wp2_with fail
  refine hwh.mono ?_;rintro e w2 ⟨hP2,hb2⟩;have HB2:Hid (Below w.heap.size w w2):=Below.then HB1.out hb2;clear hb2 hwh;rcases hP2 with ⟨h1,rfl⟩ | ⟨h1,rfl⟩
  ·exact absurd h1 HN0.out
  ·unfold wB;clear h1;go_wp2_with fail
   go_ret2
   rw [sdS_none HE.out,sdN_none HE.out];exact ⟨rfl,HB2.out⟩
theorem drop_getD (l:List ByteArray) (k i:Nat):(l.drop k).getD i ⟨#[]⟩=l.getD (k+i) ⟨#[]⟩:=by
 simp [List.getD_eq_getElem?_getD,List.getElem?_drop]
def ScanP (l:List ByteArray) (w w':World) (e:Ending):Prop:=∃v,e=.returned (.tuple #[v,.int .i64 ((sc 65535 l 1).2:Nat)])∧RwS w' w.heap.size v (sc 65535 l 1).1
open Go.RowKit Go.Maps Go.Shelf
attribute [local go_sem] Oper.semAt_some
set_option linter.unusedVariables false
set_option linter.unusedSimpArgs false
/- What has come of the records, and what is still to come. -/
structure Midr (l:List ByteArray) (k a:Nat) (pre:List (Int×ByteArray)):Prop where
 k1:k≤65535
 len:pre.length=k
 at':a≤l.length
 p1:pre++rcs (65535 - k) (l.drop a) (k+1) a=rcs 65535 l 1 0
theorem Midr.start (l:List ByteArray):Midr l 0 0 []:=⟨by omega,rfl,Nat.zero_le _,by simp⟩
theorem Midr.step {l:List ByteArray} {k a:Nat} {pre:List (Int×ByteArray)} (h:Midr l k a pre) (hk:k<65535) {s:ByteArray} (hs:sd (l.drop a) ((k+1:Nat):Int)=some s):Midr l (k+1) (a+np s.size) (pre++[(((a+np s.size:Nat):Int),s)]):=by
 have h1:=h.p1;have h2:=(sd_std hs).fit;have h3:=h.at';rw [List.length_drop] at h2;rw [show 65535 - k=(65535 - (k+1))+1 by omega,rcs,hs] at h1;simp only [List.drop_drop] at h1;exact ⟨by omega,by simp [h.len],by omega,by rw [List.append_assoc];exact h1⟩
theorem Midr.stop {l:List ByteArray} {k a:Nat} {pre:List (Int×ByteArray)} (h:Midr l k a pre) (hs:sd (l.drop a) ((k+1:Nat):Int)=none):pre=rcs 65535 l 1 0:=by
 have h1:=h.p1;by_cases hk:k<65535
 ·rw [show 65535 - k=(65535 - (k+1))+1 by omega,rcs,hs] at h1
  simpa using h1
 ·have:=h.k1;obtain rfl:k=65535:=by omega
  rw [Nat.sub_self,rcs] at h1
  simpa using h1
theorem Midr.full {l:List ByteArray} {a:Nat} {pre:List (Int×ByteArray)} (h:Midr l 65535 a pre):pre=rcs 65535 l 1 0:=by
 have h1:=h.p1;rw [Nat.sub_self,rcs] at h1
 simpa using h1
theorem Midr.part {l:List ByteArray} {k a:Nat} {pre:List (Int×ByteArray)} (h:Midr l k a pre):pre<+:rcs 65535 l 1 0:=⟨_,h.p1⟩
theorem grown_of {W W':World} (h:Below W.heap.size W W'):W.grownBy W' none:=⟨h.os,h.tape,h.output,h.size,fun k hk _=>h.block k hk⟩
theorem rds_below {n0 b o:Nat} {W W':World} {l:List ByteArray} (h:Below n0 W W') (hb:b<n0) (hr:RdS W (some ⟨b,o,none⟩) l):RdS W' (some ⟨b,o,none⟩) l:=fun i hi=>by
 obtain ⟨b',o',e,c⟩:=hr i hi;cases e
 exact ⟨b,o,rfl,(h.cell (p:=⟨b,o+i,none⟩) hb).trans c⟩
theorem rds_drop {b o:Nat} {W:World} {l:List ByteArray} (hr:RdS W (some ⟨b,o,none⟩) l) (p:Nat):RdS W (some ⟨b,o+p,none⟩) (l.drop p):=fun i hi=>by
 rw [List.length_drop] at hi;obtain ⟨b',o',e,c⟩:=hr (p+i) (by omega);cases e
 exact ⟨b,o+p,rfl,by rw [drop_getD,Nat.add_assoc];exact c⟩
/- What a round keeps: all below n0, and the box that the iterator reads. -/
def KpR (n0 Bs:Nat) (W W':World):Prop:=Below n0 W W'∧∀v,W.cell? ⟨Bs,0,none⟩=some v→W'.cell? ⟨Bs,0,none⟩=some v
theorem KpR.refl (n0 Bs:Nat) (W:World):KpR n0 Bs W W:=⟨Below.refl _ _,fun _ h=>h⟩
theorem KpR.trans {n0 Bs:Nat} {A B C:World} (h:KpR n0 Bs A B) (k:KpR n0 Bs B C):KpR n0 Bs A C:=⟨h.1.trans k.1,fun v hv=>k.2 v (h.2 v hv)⟩
theorem KpR.of {n0 Bs:Nat} {A B:World} (hn:n0≤A.heap.size) (h:Below A.heap.size A B):KpR n0 Bs A B:=⟨h.mono hn,fun v hv=>cell_later h hv⟩
set_option maxRecDepth 100000 in
set_option maxHeartbeats 4000000 in
theorem records1_in (n:Nat) (hn:1≤n) (lo Bs n0 b o cap:Nat) (ls:List ByteArray) (hcap:ls.length≤cap) (hlen:ls.length≤8796093022208) (hb:b<n0) (J Jx:List (Int×ByteArray)→World→Prop) (W:World) (hn0:n0≤W.heap.size) (hJ:AbidesFrom W.heap.size J)
  (hY:∀pre x W1,J pre W1→pre.length<65535→YieldAt Fence.wide (n - 1) Tryz.prog lo #[.int .i64 x.1,.string x.2] W1 fun e W'=>
   (e=.returned (.bool true)∧J (pre++[x]) W'∧KpR n0 Bs W1 W')∨(e=.returned (.bool false)∧Jx (pre++[x]) W'))
  (hBs:W.cell? ⟨Bs,0,none⟩=some (.slice (some ⟨b,o,none⟩) ls.length cap)) (hrd:RdS W (some ⟨b,o,none⟩) ls) (h0:J [] W):
  CallsIn Fence.wide n Tryz.prog 239 #[.func (.yield lo) #[] #[],.pointer (some ⟨Bs,0,none⟩)] W fun e W'=>(∃v,e=.returned v)∧
   ((∃ys,ys=rcs 65535 ls 1 0∧J ys W')∨(∃pre,pre<+:rcs 65535 ls 1 0∧Jx pre W')):=by
 obtain ⟨N,hN⟩:∃N,ls.length=N:=⟨_,rfl⟩;have HLN:Hid (ls.length=N):=hN;have HRD:Hid (RdS W (some ⟨b,o,none⟩) ls):=hrd;rw [hN] at hcap hlen hBs;clear hN hrd;refine callsIn_of_wp Tryz.func239 rfl trivial ?_ rfl;simp only [Tryz.ntmps239,List.size_toArray,List.length_cons,List.length_nil,Nat.reduceAdd,Nat.reduceSub,Array.replicate_succ,Array.replicate_zero,List.push_toArray,List.append_toArray,List.nil_append,List.cons_append]
 gi_wp2
 gi_loopw [3,4] (fun x i wr=>∃(k p:Nat) (pre:List (Int×ByteArray)),Midr ls k p pre∧x=.int .i64 (p:Int)∧i=.int .i64 ((k+1:Nat):Int)∧J pre wr∧KpR n0 Bs W wr) (fun _ i _=>65536 - (intOf i).toNat)
 case atStart=>exact ⟨0,0,[],Midr.start ls,rfl,rfl,h0,KpR.refl _ _ _⟩
 case round=>
  obtain ⟨k,p,pre,hM,rfl,rfl,hJp,hbw⟩:=hrel;have HM:Hid (Midr ls k p pre):=hM;have HJP:Hid (J pre wr):=hJp;have HBW:Hid (KpR n0 Bs W wr):=hbw;have HSZ:Hid (n0≤wr.heap.size):=Nat.le_trans hn0 hbw.1.size;have hk1:=hM.k1;have hpn:p≤N:=by rw [←HLN.out];exact hM.at'
  have cB:wr.cell? ⟨Bs,0,none⟩=some (.slice (some ⟨b,o,none⟩) N cap):=hbw.2 _ hBs;clear hM hJp hbw;by_cases hk:k<65535
  ·have j1:decide (((k+1:Nat):Int)≤65535)=true:=by simp;omega
   have j2:IntKind.i64.wrap (((k+1:Nat):Int)+1)=((k+1+1:Nat):Int):=by rw [Bt.wrap_fit _ (by omega) (by omega)];omega
   have x5:(0:Int)≤(p:Int):=by omega
   have x6:(p:Int)≤(N:Int):=by omega
   obtain ⟨K,hK⟩:∃K,((k+1:Nat):Int)=K:=⟨_,rfl⟩;obtain ⟨K2,hK2⟩:∃K2,((k+1+1:Nat):Int)=K2:=⟨_,rfl⟩;have HK:Hid (((k+1:Nat):Int)=K):=hK;have HK2:Hid (((k+1+1:Nat):Int)=K2):=hK2;rw [hK] at j1 j2 ⊢;rw [hK2] at j2;clear hK hK2;by_cases hpc:p<cap
   ·have y1:¬cap=p:=by omega
    have y2:¬p=cap:=by omega
    have hst:=standing_any (some ⟨b,o+p,none⟩) (cap - p) (ls.drop p) K wr (by rw [List.length_drop,HLN.out];omega) (rds_drop (rds_below HBW.out.1 hb HRD.out) p);rw [List.length_drop,HLN.out] at hst
    gi_wp2_with fail
    refine ⟨trivial,(callsIn_wide.2 hst).mono ?_⟩;rintro e w3 ⟨rfl,hb3⟩;have hJ3:J pre w3:=hJ _ _ _ none HJP.out (grown_of hb3) (fun r e=>by cases e);have HBW3:Hid (KpR n0 Bs W w3):=HBW.out.trans (KpR.of HSZ.out hb3)
    cases hsd:sd (ls.drop p) K with
    | none=>
     have HE:Hid (pre=rcs 65535 ls 1 0):=HM.out.stop (by rw [HK.out];exact hsd);rw [sdS_none hsd,sdN_none hsd];clear hsd hst
     gi_wp2_with fail
     refine bodyPost_ret (results_none rfl _ _ _) rfl ?_;exact ⟨⟨_,rfl⟩,.inl ⟨_,HE.out,hJ3⟩⟩
    | some s=>
     have HM':Hid (Midr ls (k+1) (p+np s.size) (pre++[(((p+np s.size:Nat):Int),s)])):=HM.out.step hk (by rw [HK.out];exact hsd);have hpos:=(sd_std hsd).pos;have hat:=HM'.out.at';rw [HLN.out] at hat;rw [sdS_some hsd,sdN_some hsd];obtain ⟨m,hm⟩:∃m,np s.size=m:=⟨_,rfl⟩;rw [hm] at HM' hpos hat ⊢;have m0:((m:Int)==0)=false:=by simp;omega
     have m1:IntKind.i64.wrap ((p:Int)+(m:Int))=((p+m:Nat):Int):=by rw [←Int.natCast_add];exact Bt.wrap_fit _ (by omega) (by omega)
     obtain ⟨PM,hPM⟩:∃PM,((p+m:Nat):Int)=PM:=⟨_,rfl⟩;obtain ⟨fn,tmps,assign,body,hy,hR⟩:=hY pre (PM,s) w3 hJ3 (by rw [HM.out.len];exact hk);dsimp only at hy;have HPM:Hid (((p+m:Nat):Int)=PM):=hPM;rw [hPM] at m1 HM';clear hsd hm hst hPM hJ3
     gi_wp2_with fail
     refine hR.mono ?_;rintro e W4 (⟨rfl,hJ4,hk4⟩ | ⟨rfl,hJx4⟩)
     ·gi_wp2_with fail
      go_roundw
      case rel=>exact ⟨k+1,p+m,_,HM'.out,by rw [HPM.out],by rw [HK2.out],hJ4,HBW3.out.trans hk4⟩
      case measure=>simp [intOf,←HK.out,←HK2.out];omega
     ·gi_wp2_with fail
      refine bodyPost_ret (results_none rfl _ _ _) rfl ?_;exact ⟨⟨_,rfl⟩,.inr ⟨_,HM'.out.part,hJx4⟩⟩
   ·have y1:(cap=p)=True:=by simp;omega
    have y2:(p=cap)=True:=by simp;omega
    have hst:=standing_any (some ⟨b,o,none⟩) (cap - p) (ls.drop p) K wr (by rw [List.length_drop,HLN.out];omega) (by rw [List.drop_eq_nil_of_le (by rw [HLN.out];omega)];exact RdS.nil _ _);rw [List.length_drop,HLN.out] at hst
    gi_wp2_with fail
    refine ⟨trivial,(callsIn_wide.2 hst).mono ?_⟩;rintro e w3 ⟨rfl,hb3⟩;have hJ3:J pre w3:=hJ _ _ _ none HJP.out (grown_of hb3) (fun r e=>by cases e);have HBW3:Hid (KpR n0 Bs W w3):=HBW.out.trans (KpR.of HSZ.out hb3)
    cases hsd:sd (ls.drop p) K with
    | none=>
     have HE:Hid (pre=rcs 65535 ls 1 0):=HM.out.stop (by rw [HK.out];exact hsd);rw [sdS_none hsd,sdN_none hsd];clear hsd hst
     gi_wp2_with fail
     refine bodyPost_ret (results_none rfl _ _ _) rfl ?_;exact ⟨⟨_,rfl⟩,.inl ⟨_,HE.out,hJ3⟩⟩
    | some s=>
     have HM':Hid (Midr ls (k+1) (p+np s.size) (pre++[(((p+np s.size:Nat):Int),s)])):=HM.out.step hk (by rw [HK.out];exact hsd);have hpos:=(sd_std hsd).pos;have hat:=HM'.out.at';rw [HLN.out] at hat;rw [sdS_some hsd,sdN_some hsd];obtain ⟨m,hm⟩:∃m,np s.size=m:=⟨_,rfl⟩;rw [hm] at HM' hpos hat ⊢;have m0:((m:Int)==0)=false:=by simp;omega
     have m1:IntKind.i64.wrap ((p:Int)+(m:Int))=((p+m:Nat):Int):=by rw [←Int.natCast_add];exact Bt.wrap_fit _ (by omega) (by omega)
     obtain ⟨PM,hPM⟩:∃PM,((p+m:Nat):Int)=PM:=⟨_,rfl⟩;obtain ⟨fn,tmps,assign,body,hy,hR⟩:=hY pre (PM,s) w3 hJ3 (by rw [HM.out.len];exact hk);dsimp only at hy;have HPM:Hid (((p+m:Nat):Int)=PM):=hPM;rw [hPM] at m1 HM';clear hsd hm hst hPM hJ3
     gi_wp2_with fail
     refine hR.mono ?_;rintro e W4 (⟨rfl,hJ4,hk4⟩ | ⟨rfl,hJx4⟩)
     ·gi_wp2_with fail
      go_roundw
      case rel=>exact ⟨k+1,p+m,_,HM'.out,by rw [HPM.out],by rw [HK2.out],hJ4,HBW3.out.trans hk4⟩
      case measure=>simp [intOf,←HK.out,←HK2.out];omega
     ·gi_wp2_with fail
      refine bodyPost_ret (results_none rfl _ _ _) rfl ?_;exact ⟨⟨_,rfl⟩,.inr ⟨_,HM'.out.part,hJx4⟩⟩
  ·have j1:decide (((k+1:Nat):Int)≤65535)=false:=by simp;omega
   obtain rfl:k=65535:=by omega
   gi_wp2_with fail
   go_end0
   exact ⟨⟨_,rfl⟩,.inl ⟨pre,HM.out.full,HJP.out⟩⟩
attribute [local go_sem] Oper.semAt_some
set_option linter.unusedVariables false
set_option linter.unusedSimpArgs false
theorem sd_nil (q:Int):sd [] q=none:=sd_no fun s h=>by have:=h.fit;have:=h.pos;simp at *;omega
theorem rcs_nil:rcs 65535 [] 1 0=[]:=by rw [rcs,sd_nil]
set_option maxRecDepth 100000 in
set_option maxHeartbeats 2000000 in
theorem records1_nil (n:Nat) (hn:1≤n) (lo Bs:Nat) (J:List (Int×ByteArray)→World→Prop) (W:World) (hJ:AbidesFrom W.heap.size J)
  (hBs:W.cell? ⟨Bs,0,none⟩=some (.slice none 0 0)) (h0:J [] W):
  CallsIn Fence.wide n Tryz.prog 239 #[.func (.yield lo) #[] #[],.pointer (some ⟨Bs,0,none⟩)] W fun e W'=>(∃v,e=.returned v)∧J [] W':=by
 have hst:=standing_any none 0 [] 1 W (by simp) (RdS.nil _ _);rw [sdS_none (sd_nil _),sdN_none (sd_nil _)] at hst;simp only [List.length_nil] at hst;refine callsIn_of_wp Tryz.func239 rfl trivial ?_ rfl;simp only [Tryz.ntmps239,List.size_toArray,List.length_cons,List.length_nil,Nat.reduceAdd,Nat.reduceSub,Array.replicate_succ,Array.replicate_zero,List.push_toArray,List.append_toArray,List.nil_append,List.cons_append]
 gi_wp2
 gi_loopw [3,4] (fun x i wr=>x=.int .i64 0∧i=.int .i64 1∧wr=W) (fun _ i _=>0)
 case atStart=>exact ⟨rfl,rfl,rfl⟩
 case round=>
  obtain ⟨rfl,rfl,rfl⟩:=hrel
  gi_wp2_with fail
  refine ⟨trivial,(callsIn_wide.2 hst).mono ?_⟩;rintro e w3 ⟨rfl,hb3⟩;have hJ3:J [] w3:=hJ _ _ _ none h0 (grown_of hb3) (fun r e=>by cases e);clear hst
  gi_wp2_with fail
  refine bodyPost_ret (results_none rfl _ _ _) rfl ?_;exact ⟨⟨_,rfl⟩,hJ3⟩
theorem records_in (n:Nat) (a:Option Addr) (len cap:Nat) (w:World):
  CallsIn Fence.wide n Tryz.prog 182 #[.slice a len cap] w fun e w'=>e=.returned (.func (.func 239) #[] #[.pointer (some ⟨w.heap.size,0,none⟩)])∧w'=w.alloc (.cells #[.slice a len cap] 22):=by
 refine callsIn_of_wp Tryz.func182 rfl trivial ?_ rfl;simp only [Tryz.ntmps182,List.size_toArray,List.length_cons,List.length_nil,Nat.reduceAdd,Nat.reduceSub,Array.replicate_succ,Array.replicate_zero,List.push_toArray,List.append_toArray,List.nil_append,List.cons_append]
 gi_wp2
 go_ret;exact ⟨rfl,rfl⟩
/- A slice of texts, as an argument: nil, or somewhere below n0. -/
def Txs (n0:Nat) (W:World) (a:Option Addr) (cap:Nat) (l:List ByteArray):Prop:=
 (a=none∧cap=0∧l=[])∨∃b o,a=some ⟨b,o,none⟩∧b<n0∧l.length≤cap∧RdS W (some ⟨b,o,none⟩) l
theorem Txs.below {n0:Nat} {W W':World} {a:Option Addr} {cap:Nat} {l:List ByteArray} (h:Txs n0 W a cap l) (hb:Below n0 W W'):Txs n0 W' a cap l:=by
 rcases h with h | ⟨b,o,e,h1,h2,h3⟩
 ·exact .inl h
 ·exact .inr ⟨b,o,e,h1,h2,rds_below hb h1 h3⟩
theorem records_stops (n:Nat) (hn:1≤n) (Bs n0:Nat) (a:Option Addr) (cap:Nat) (l:List ByteArray) (hlen:l.length≤8796093022208) (w:World) (hBs:Bs<w.heap.size) (hn0:n0≤w.heap.size)
  (hc:w.cell? ⟨Bs,0,none⟩=some (.slice a l.length cap)) (hA:Txs n0 w a cap l):
  SeqStopsK Fence.wide n Tryz.prog 239 #[.pointer (some ⟨Bs,0,none⟩)] (fun x:Int×ByteArray=>#[Value.int .i64 x.1,Value.string x.2]) (KpR n0 Bs) (fun ys=>ys=rcs 65535 l 1 0) (fun pre=>pre<+:rcs 65535 l 1 0) 65535 w:=fun lo J Jx W hW hJ _ hY h0=>by
 have hc':=(hW.cell (p:=⟨Bs,0,none⟩) hBs).trans hc;rcases hA.below (hW.mono hn0) with ⟨rfl,rfl,rfl⟩ | ⟨b,o,rfl,hb,hcap,hrd⟩
 ·exact (records1_nil n hn lo Bs J W hJ hc' h0).mono fun e W' ⟨he,hj⟩=>⟨he,.inl ⟨_,rcs_nil.symm,hj⟩⟩
 ·exact records1_in n hn lo Bs n0 b o cap l hcap hlen hb J Jx W (Nat.le_trans hn0 hW.size) hJ hY hc' hrd h0
theorem kpR_b {n0 Bs:Nat} {w:World} (hn:n0≤w.heap.size) (hB:Bs<w.heap.size):∀(W:World) (l:Nat) (o o':Obj),w.heap.size≤l→W.heap[l]? =some o→o.isCells=false→o.isWalk=false→KpR n0 Bs W (W.putObj l o'):=fun W l o o' h1 h2 h3 h4=>
 ⟨belowK_b hn W l o o' h1 h2 h3 h4,fun v hv=>by
  have:(W.putObj l o').heap[Bs]? =W.heap[Bs]? :=World.putObj_heap_other (by omega);unfold World.cell? at hv ⊢;rw [this]
  exact hv⟩
def pay (pre:List (Int×ByteArray)):List ByteArray:=pre.map fun p=>p.2
theorem pay_snoc (pre:List (Int×ByteArray)) (x:Int×ByteArray):pay (pre++[x])=pay pre++[x.2]:=by simp [pay]
theorem pay_len (pre:List (Int×ByteArray)):(pay pre).length=pre.length:=by simp [pay]
theorem ScanP.of {l:List ByteArray} {w w':World} {v:Value} {ys:List (Int×ByteArray)} (e:ys=rcs 65535 l 1 0) (hr:w'.ownsRow w.heap.size 9 1 v (pay ys).length (cellsS (pay ys))):ScanP l w w' (.returned (.tuple #[v,.int .i64 (lastE 0 ys)])):=by
 subst e;obtain ⟨h1,h2⟩:=rcs_sc 65535 l 1 0;have h3:pay (rcs 65535 l 1 0)=(sc 65535 l 1).1:=h1;rw [h3] at hr;refine ⟨v,?_,hr⟩;have h4:lastE 0 (rcs 65535 l 1 0)=((sc 65535 l 1).2:Int):=by simpa using h2
 rw [h4]
theorem two_boxes {W:World} {A B:Nat} {t:TypeId} {u:Value} (hB:Boxed W B t u) (hne:A≠B) (v':Value):Boxed (W.setCell ⟨A,0,none⟩ v') B t u:=hB.kept (grownBy_setCell' W A v') (by simp;omega)
set_option maxRecDepth 100000 in
set_option maxHeartbeats 4000000 in
theorem scan_in (n:Nat) (hn:3≤n) (a:Option Addr) (cap:Nat) (l:List ByteArray) (w:World) (hlen:l.length≤8796093022208) (hA:Txs w.heap.size w a cap l):
  CallsIn Fence.wide n Tryz.prog 125 #[.slice a l.length cap] w fun e w'=>ScanP l w w' e∧Below w.heap.size w w':=by
 have h1:1≤n:=by omega
 obtain ⟨i0,hi,hz0,hz1,hz2⟩:=info_parts infoS;refine callsIn_of_wp_marks Tryz.func125 rfl trivial ?_ rfl;simp only [Tryz.ntmps125,List.size_toArray,List.length_cons,List.length_nil,Nat.reduceAdd,Nat.reduceSub,Array.replicate_succ,Array.replicate_zero,List.push_toArray,List.append_toArray,List.nil_append,List.cons_append]
 gi_wp2_with fail
 refine ⟨trivial,(records_in (n - 1) _ _ _ _).mono ?_⟩;rintro e w' ⟨rfl,rfl⟩;have bP:=Boxed.new w 22 (.slice none 0 0);have bE:=Boxed.new (w.alloc (.cells #[.slice none 0 0] 22)) 3 (.int .i64 0);have bI:=Boxed.new ((w.alloc (.cells #[.slice none 0 0] 22)).alloc (.cells #[.int .i64 0] 3)) 22 (.slice a l.length cap);simp only [World.size_alloc] at bE bI;have hB0:Below w.heap.size w (((w.alloc (.cells #[.slice none 0 0] 22)).alloc (.cells #[.int .i64 0] 3)).alloc (.cells #[.slice a l.length cap] 22)):=(((Below.refl _ w).alloc (Nat.le_refl _) _).alloc (by simp) _).alloc (by simp;omega) _
 gi_wp2_with fail
 refine wpIn_rangeFunc_ownG rfl h1 (gf:=239) (lb:=#[.pointer (some ⟨w.heap.size+1+1,0,none⟩)]) (by simp [go_sem]) trivial (enters_of Tryz.func239 (by kernel_rfl) rfl)
  (records_stops (n - 1) (by omega) (w.heap.size+1+1) w.heap.size a cap l hlen _ (by simp) (by simp;omega) bI.cell (hA.below hB0)) KpR.trans (kpR_b (by simp;omega) (by simp)) (Below.refl _ _) (fun _=>rfl)
  (fun pre W=>((∃v,Boxed W w.heap.size 22 v∧W.ownsRow w.heap.size 9 1 v (pay pre).length (cellsS (pay pre))∧True)∧Boxed W (w.heap.size+1) 3 (.int .i64 (lastE 0 pre))∧Boxed W (w.heap.size+1+1) 22 (.slice a l.length cap))∧Below w.heap.size w W)
  (fun _ _ _=>False)
  (OwnFrom.and (OwnFrom.and (Own.from (holdsRow_own w.heap.size w.heap.size 22 9 1 (fun pre=>(pay pre).length) (fun pre=>cellsS (pay pre)) (fun pre v=>True)) _) (OwnFrom.and (Own.from (boxed_own _ _ _) _) (Own.from (boxed_own _ _ _) _))) (ownFrom_below (Nat.le_refl _) (by simp;omega)))
  (fun _ _ _ _ _ hs _ _=>hs)
  ⟨⟨⟨_,(bP.alloc _).alloc _,World.ownsRow_nil _ _ _ _,trivial⟩,bE.alloc _,bI⟩,hB0⟩
  (fun x=>{tmps:=#[.slice a l.length cap,undef,.slice none 0 0,.int .i64 0,.pointer (some ⟨w.heap.size,0,none⟩),.pointer (some ⟨w.heap.size+1,0,none⟩),.int .i64 x.1,.string x.2,.slice a l.length cap,.func (.func 239) #[] #[.pointer (some ⟨w.heap.size+1+1,0,none⟩)],.int .i64 x.1,.string x.2,undef,undef,undef,undef,undef,undef,undef],defers:=[]}) ?assign ?body ?done ?stop
 case assign=>
  intro lo x W K hK
  gi_wp2
  exact hK
 case body=>
  rintro lo pre x W ⟨⟨⟨v,hv,hrow,-⟩,hE,hI⟩,hB⟩ hlt;have hc:=hv.cell;have hpl:(pay pre).length<65535:=by rw [pay_len];exact hlt
  gi_wp2_with (gi_at_builtin;refine wpListIn_append_own _ rfl _ _ 22 rfl w.heap.size 9 i0 _ 1 16 Tryz.underlying22 hi hz0 hz1 hz2 rfl (by decide) _ _ _ rfl (hrow.alloc _) ⟨W.heap.size,0,none⟩ 1 1 [.string x.2] rfl rfl (cell_one_new _ _ _) (by simp [Value.oneCell']) (by unfold maxLen;omega) (by omega) (by have:=hB.size;simp;omega) ?_;intro v' w1 hown' hgrow _;obtain ⟨g',cap',rfl⟩:=ownsRow_succ hown';obtain ⟨hv1,hv2,hr2,hk2,hb2⟩:=hv.appended (by decide) hrow hB.size (Nat.le_refl _) hown' hgrow;have hc1:=hv1.cell;have hf1:=hv1.frozen;have hE1:=(hE.alloc _).kept hgrow (hE.not_row (by decide) hrow);have hc2:=hE1.cell;have hf2:=hE1.frozen;have hI1:=(hI.alloc _).kept hgrow (hI.not_row (by decide) hrow))
  have hE2:=two_boxes hE1 (A:=w.heap.size) (by omega) (.slice (some ⟨g',0,none⟩) ((pay pre).length+1) cap');have hI2:=two_boxes (two_boxes hI1 (A:=w.heap.size) (by omega) (.slice (some ⟨g',0,none⟩) ((pay pre).length+1) cap')) (A:=w.heap.size+1) (by omega) (.int .i64 x.1);have hb3:=hb2.setCell (p:=⟨w.heap.size+1,0,none⟩) (by show w.heap.size≤w.heap.size+1;omega) (.int .i64 x.1);refine ⟨(hk2.trans (KeepsOthers.setCell _ _ _)).from _,⟨hb3,fun u hu=>?_⟩,⟨⟨_,two_boxes hv2 (by omega) _,?_,trivial⟩,?_,hI2⟩,hB.trans hb3⟩
  ·rw [hI.cell] at hu;rw [←hu];exact hI2.cell
  ·rw [pay_snoc];have hr3:=hr2.kept (grownBy_setCell' _ (w.heap.size+1) (.int .i64 x.1)) (.inr (hE2.not_row (by decide) hr2).symm);rw [cellsS_append,List.length_append];exact hr3
  ·rw [lastE_snoc];exact hE2.set _
 case done=>
  rintro D ys W hD rfl ⟨⟨⟨v,hv,hrow,-⟩,hE,hI⟩,hB⟩ hK;have hc:=hv.cell;have hc2:=hE.cell
  gi_wp2
  gi_region
  all_goals gi_wp2
  have hbd:Below W.heap.size W W.drew:=⟨rfl,rfl,rfl,Nat.le_refl _,fun _ _=>rfl⟩;have hrd:=row_later hrow hbd;have hKd:W.drew.heap[D]? =some (.deferred (some [])):=hK;have hBd:Below w.heap.size w W.drew:=Below.then hB hbd;obtain ⟨Wd,hWd⟩:∃Wd,W.drew=Wd:=⟨_,rfl⟩;rw [hWd] at hrd hKd hBd ⊢;refine ⟨by simp,.inl ⟨_,_,rfl,run_takeDeferred hKd,?_⟩⟩;exact ⟨_,results_tmp2 rfl _ _ _,ScanP.of rfl (ownsRow_putObj hrd _ hKd rfl),hBd.trans (belowK_b (w:=w) (Nat.le_refl _) Wd D _ _ (by simp at hD;omega) hKd rfl rfl)⟩
 case stop=>
  rintro D c pre W _ _ h _;exact h.elim
theorem scan_any (a:Option Addr) (cap:Nat) (l:List ByteArray) (w:World) (hlen:l.length≤8796093022208) (hA:Txs w.heap.size w a cap l):
  Calls Tryz.prog 125 #[.slice a l.length cap] w fun e w'=>ScanP l w w' e∧Below w.heap.size w w':=callsIn_wide.1 (scan_in 3 (by omega) a cap l w hlen hA)
end Go.Proofs.YtoimkngkcliinaaGreatDoor.Jr
