/- RcN, RcR, joined. -/
import Derived.Test.YtoimkngkcliinaaGreatDoorRcL
import Derived.Test.YtoimkngkcliinaaGreatDoorHd
import Derived.Test.YtoimkngkcliinaaGreatDoorJPlD
import Derived.Test.YtoimkngkcliinaaGreatDoorJPlC
import Derived.Test.YtoimkngkcliinaaGreatDoorJRcE
import Derived.Test.YtoimkngkcliinaaGreatDoorJRsSm
import Derived.Maps.AppendAt
import Derived.Great.BuildSlice
import Derived.Great.FillDense
namespace Go.Proofs.YtoimkngkcliinaaGreatDoor.Rc
open Rs (RdI ps Tb i64s)
set_option linter.unusedVariables false
set_option maxRecDepth 4000
theorem nx_ep {t:Tr} {L J:List Int} (h:plE t L J=0):(pnT t L J).ep=t.ep+1∧0≤t.ep∧t.ep≤199:=by
 have hs:=plE_stp h;refine ⟨?_,hs.rt.e0,hs.ep⟩;unfold pnT;rw [if_pos h];rfl
theorem ws_adl (T:List Nat) (J:List Int):∀k,k≤J.length→ws (Rs.adl T J k)=J.take k
 | 0,_=>rfl
 | k+1,h=>by
  have ih:=ws_adl T J k (by omega)
  have e:ws (Rs.adl T J (k+1))=ws (Rs.adl T J k)++[J.getD k 0]:=by
   show ws (Rs.adl T J k++[(J.getD k 0,((T.getD k 0:Nat):Int))])=_
   unfold ws;rw [List.map_append];rfl
  rw [e,ih,take_nx 0 (by omega)]
theorem ws_jn {t:Tr} {L J:List Int} (h:plE t L J=0):ws (pnJ t L J)=J:=by
 unfold pnJ;rw [if_pos h];unfold jns;rw [ws_adl _ _ _ (Nat.le_refl _),List.take_length]
/- A step's own record, played. -/
theorem play_own {t:Tr} {L J:List Int} (h:plE t L J=0):
  plyE t (pnT t L J).ep (pnT t L J).fr L (pnJ t L J)=0∧plyT t (pnT t L J).ep (pnT t L J).fr L (pnJ t L J)=pnT t L J∧plyP t (pnT t L J).ep (pnT t L J).fr L (pnJ t L J)=pnP t L J
  ∧plyL t (pnT t L J).ep (pnT t L J).fr L (pnJ t L J)=pnL t L J∧plyJ t (pnT t L J).ep (pnT t L J).fr L (pnJ t L J)=pnJ t L J∧plyI t (pnT t L J).ep (pnT t L J).fr L (pnJ t L J)=pnI t L J:=by
 have hw:=ws_jn h
 have h0:plyE t (pnT t L J).ep (pnT t L J).fr L (pnJ t L J)=0:=by
  unfold plyE;rw [(plE_stp h).ok,if_pos rfl,hw,if_pos h,sam_refl];rfl
 unfold plyT plyP plyL plyJ plyI;rw [h0,hw];exact ⟨rfl,rfl,rfl,rfl,rfl,rfl⟩
open Go.ChangeShapes Go.WideShapes Go.ChangeAt Go.RowKit Go.Maps Go.Shelf
open Rs (own_other ps RdI i64s row_frozen owns_later adl)
set_option linter.unusedSimpArgs false
theorem step_rgt {t:Tr} {L J:List Int} (h:plE t L J=0):rgt (pnT t L J).ep (pnT t L J).fr L (pnJ t L J)=true:=by
 have hs:=plE_stp h;have hr:=hs.right;have e0:=hs.rt.e0;have hT:pnT t L J=nx t L J:=by unfold pnT;rw [if_pos h]
 have hj:pnJ t L J=adl (Rs.mvT t.ro L J) J J.length:=by unfold pnJ;rw [if_pos h];rfl
 have hJ:=pnJ_len t L J
 have wk:∀x:Int,Rs.wok x=true→who x=true:=fun x hx=>by
  rw [who_iff];unfold Rs.wok at hx;simp at hx;omega
 rw [hT];refine rgt_iff.2 ⟨by show 1≤t.ep+1;omega,hr.e1,hr.f0,hr.f1,hs.fit.lenL,hJ,fun x hx=>?_,fun p hp=>?_⟩
 ·obtain ⟨k,hk,e⟩:=List.getElem_of_mem hx;have q:=(hs.fit.lv k hk).1;rw [List.getD_eq_getElem?_getD,List.getElem?_eq_getElem hk] at q;rw [←e];exact wk _ q
 ·rw [hj] at hp;obtain ⟨k,hk,e⟩:=List.getElem_of_mem hp;have hk':k<J.length:=by simpa using hk
  have q:=Rs.adl_get (Rs.mvT t.ro L J) J J.length hk';rw [List.getD_eq_getElem?_getD,List.getElem?_eq_getElem hk] at q;have q2:p=(J.getD k 0,(((Rs.mvT t.ro L J).getD k 0:Nat):Int)):=by rw [←e];exact q
  have q3:=(hs.fit.slots (sc:=0) (bs:=1) (by omega) hk').lt;have q4:=who_iff.1 (wk _ (hs.fit.jn k hk').1);rw [q2];exact sea_iff.2 ⟨q4,by dsimp only;omega,by dsimp only;omega⟩
/- The texts. -/
def lg (t:Tr) (b:List Int×List Int):ByteArray:=wrS (pnT t b.1 b.2).ep (pnT t b.1 b.2).fr b.1 (pnJ t b.1 b.2)
def lgs (ns:List Tr) (bs:List (List Int×List Int)):List ByteArray:=(List.range bs.length).map fun i=>lg ((stT::ns).getD i (tz 0)) (bs.getD i ([],[]))
@[simp] theorem lgs_len (ns:List Tr) (bs:List (List Int×List Int)):(lgs ns bs).length=bs.length:=by simp [lgs]
/- Batches that came in. -/
def RdB (w:World) (a:Option Addr) (l:List (List Int×List Int)):Prop:=∀i,i<l.length→∃b o aL cL aJ cJ,a=some ⟨b,o,none⟩∧w.cell? ⟨b,o+i * 2,none⟩=some (.slice aL (l.getD i ([],[])).1.length cL)∧w.cell? ⟨b,o+i * 2+1,none⟩=some (.slice aJ (l.getD i ([],[])).2.length cJ)∧RdI w aL (l.getD i ([],[])).1∧RdI w aJ (l.getD i ([],[])).2
theorem RdB.later {w w':World} {a:Option Addr} {l:List (List Int×List Int)} (h:RdB w a l) (hb:Below w.heap.size w w'):RdB w' a l:=fun i hi=>by
 obtain ⟨b,o,aL,cL,aJ,cJ,e,h1,h2,h3,h4⟩:=h i hi;exact ⟨b,o,aL,cL,aJ,cJ,e,Rs.cell_later hb h1,Rs.cell_later hb h2,h3.later hb,h4.later hb⟩
end Go.Proofs.YtoimkngkcliinaaGreatDoor.Rc
