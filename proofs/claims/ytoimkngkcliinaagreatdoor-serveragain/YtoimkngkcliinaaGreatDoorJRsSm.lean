/- RsSm, RsMm, RsMath6, RsMath7, joined. -/
import Derived.Test.YtoimkngkcliinaaGreatDoorJRsH
import Derived.Test.YtoimkngkcliinaaGreatDoorOpenRs
import Derived.Laws.AppendOwnNone
import Derived.Maps.AppendAt
namespace Go.Proofs.YtoimkngkcliinaaGreatDoor.Rs
open Go.RowKit Go.Maps
set_option linter.unusedVariables false
set_option linter.unusedSimpArgs false
/- A list of seats that lies in memory. -/
def RdS (w:World) (a:Option Addr) (l:List (Int×Int)):Prop:=∀i,i<l.length→∃b,a=some ⟨b,0,none⟩∧w.cell? ⟨b,i * 2,none⟩=some (.int .i64 (l.getD i (0,0)).1)∧w.cell? ⟨b,i * 2+1,none⟩=some (.int .i64 (l.getD i (0,0)).2)
theorem RdS.later {w w':World} {a:Option Addr} {l:List (Int×Int)} (h:RdS w a l) (hb:Below w.heap.size w w'):RdS w' a l:=fun i hi=>by
 obtain ⟨b,e,c0,c1⟩:=h i hi;exact ⟨b,e,cell_later hb c0,cell_later hb c1⟩
theorem ps_get (l:List (Int×Int)):∀i,i<l.length→(ps l)[i * 2]? =some (.int .i64 (l.getD i (0,0)).1)∧(ps l)[i * 2+1]? =some (.int .i64 (l.getD i (0,0)).2):=by
 induction l with
 | nil=>intro i hi;cases hi
 | cons p l ih=>
  intro i hi;have e:ps (p::l)=.int .i64 p.1:: .int .i64 p.2::ps l:=rfl;rw [e]
  cases i with
  | zero=>exact ⟨rfl,rfl⟩
  | succ i=>
   have:=ih i (by simpa using hi);rw [show (i+1) * 2=i * 2+1+1 by omega,show i * 2+1+1+1=(i * 2+1)+1+1 by omega]
   simpa using this
theorem owns_rd {W:World} {b:Nat} {v:Value} {l:List (Int×Int)} (h:W.ownsRow b 165 2 v l.length (ps l)):∃a cap,v=.slice a l.length cap∧RdS W a l∧∀g o,a=some ⟨g,o,none⟩→v.ownBlock=some g:=by
 rcases h.2 with ⟨rfl,h0⟩ | ⟨g,cap,cur,rfl,h3,h4,h5,h6,h7,h8⟩
 ·have:l=[]:=List.length_eq_zero_iff.1 h0;subst this;exact ⟨none,0,rfl,(fun i hi=>by cases hi),fun g o e=>by cases e⟩
 ·refine ⟨some ⟨g,0,none⟩,cap,rfl,fun i hi=>⟨g,rfl,?_⟩,fun g' o e=>by simp at e;simp [Value.ownBlock,e.1]⟩;obtain ⟨p0,p1⟩:=ps_get l i hi
  have cell:∀j v,j<l.length * 2→(ps l)[j]? =some v→W.cell? ⟨g,j,none⟩=some v:=fun j v hj hv=>by
   rw [cell_of_row W g j _ _ _ h4,←hv,←h8,List.getElem?_take_of_lt hj];simp
  exact ⟨cell _ _ (by omega) p0,cell _ _ (by omega) p1⟩
set_option maxRecDepth 4000
def i64s (l:List Int):List Value:=l.map fun n:Int=>Value.int .i64 n
@[simp] theorem i64s_length (l:List Int):(i64s l).length=l.length:=by simp [i64s]
theorem i64s_one (l:List Int):∀u∈i64s l,u.oneCell'=true:=by
 intro u hu;simp only [i64s,List.mem_map] at hu;obtain ⟨_,_,rfl⟩:=hu;rfl
theorem news_of_rd {w:World} {b o:Nat} {ws:List Int} (h:RdI w (some ⟨b,o,none⟩) ws):∀j u,(i64s ws)[j]? =some u→w.cell? ((⟨b,o,none⟩:Addr).add j)=some u:=fun j u hu=>by
 have hj:j<ws.length:=by
  rcases Nat.lt_or_ge j (i64s ws).length with h' | h'
  ·simpa using h'
  ·rw [List.getElem?_eq_none h'] at hu;cases hu
 obtain ⟨b',o',e,c0⟩:=h j hj;obtain ⟨eb,eo⟩:b=b'∧o=o':=by simpa using e
 rw [←eb,←eo] at c0;rw [add_plain,c0];rw [←hu];simp [i64s,hj]
theorem run_append_none_c {P:Program} {w:World} (base:Nat) (t ty e:TypeId) (i:TypeInfo) (size:Nat) (ht:P.underlying t=some (.slice e)) (hi:P.info? e=some i) (v:Value) (n:Nat) (xs:List Value) (hown:w.ownsRow base e size v n xs) (c:Nat):
  (Builtin.append_ #[t,t] ty #[v,.slice none 0 c]).run P w=.ok v w:=by
 rcases hown.2 with ⟨rfl,rfl⟩ | ⟨g,cap,cur,rfl,_,_,hnc,_⟩
 ·simp [Builtin.append_,run_underlying ht,sizeOf,typeInfo,hi,Builtin.lenOf,Builtin.firstCells]
 ·simp [Builtin.append_,run_underlying ht,sizeOf,typeInfo,hi,Builtin.lenOf,Builtin.firstCells,hnc,storeCells]
theorem append_rd {w:World} {ops:Array Oper} {rest:List Oper} {o:Oper} {a:Act} {Q:Exit→Act→World→Prop} (hgd:o.guard=none) (s x:Operand)
  (ho:o.op=.call {callee:=.builtin .append,args:=#[s,x],argTypes:=#[39,39]})
  (base:Nat) (v:Value) (n:Nat) (xs:List Value) (hs:a.eval s=v) (hown:w.ownsRow base 3 1 v n xs) (src:Option Addr) (c:Nat) (ws:List Int) (hx:a.eval x=.slice src ws.length c) (hrd:RdI w src ws)
  (h63:n+ws.length≤maxLen) (hbytes:(n+ws.length) * 8≤140737488355328) (hbase:base≤w.heap.size)
  (h:∀v' w',w'.ownsRow base 3 1 v' (n+ws.length) (xs++i64s ws)→w.grownBy w' v.ownBlock→wpList Tryz.prog ops Q rest (a.put o.dst v') w'):wpList Tryz.prog ops Q (o::rest) a w:=by
 obtain ⟨i0,hi,hz0,hz1,hz2⟩:=info_parts infoInt
 cases src with
 | none=>
  have h0:ws=[]:=by
   cases ws with
   | nil=>rfl
   | cons y r=>obtain ⟨b,o,e,_⟩:=hrd 0 (by simp);cases e
  subst h0;refine wpList_plain hgd fun K hK=>?_
  have hrun:=run_append_none_c (P:=Tryz.prog) (w:=w) base 39 o.type 3 i0 1 Tryz.underlying39 hi v n xs hown c;rw [List.length_nil] at hx;unfold Oper.wp;simp [execOp,ho,resolve,invoke,builtin,hs,hx,hrun,Result.andThen];exact hK _ _ (h v w (by simpa [i64s] using hown) (grown_refl _ _))
 | some ad=>
  refine wpList_append_own _ hgd s x 39 ho base 3 i0 _ 1 8 Tryz.underlying39 hi hz0 hz1 hz2 rfl (by decide) v n xs hs hown ad ws.length c (i64s ws) hx (by simp) ?_ (i64s_one _) h63 hbytes hbase fun v' w' h1 h2 _=>h v' w' h1 h2
  by_cases h0:ws=[]
  ·intro j u hu;rw [h0] at hu;simp [i64s] at hu
  ·obtain ⟨b,o',e,-⟩:=hrd.spot h0;cases e
   exact news_of_rd hrd
theorem own_other {W W':World} {b:Nat} {e:TypeId} {sz:Nat} {v:Value} {n:Nat} {xs:List Value} (h:W.ownsRow b e sz v n xs) (hk:∀g,v.ownBlock=some g→W'.heap[g]? =W.heap[g]?):W'.ownsRow b e sz v n xs:=by
 obtain ⟨h1,h2⟩:=h;refine ⟨h1,?_⟩;rcases h2 with h2 | ⟨g,cap,cur,rfl,h3,h4,r⟩
 ·exact .inl h2
 ·exact .inr ⟨g,cap,cur,rfl,h3,(hk g (by simp [Value.ownBlock])).trans h4,r⟩
structure Rt (f:Nat→En):Prop where
 one:∀i,i<64→rgp (f i)=true
 two:∀i j,i<64→j<64→i≠j→clh (f i) (f j)=false
theorem clh_comm (a b:En):clh a b=clh b a:=by
 unfold clh alike;rw [Bool.and_comm (tkn a),show decide (a.who=b.who)=decide (b.who=a.who) by simp [eq_comm],show decide (a.bas=b.bas)=decide (b.bas=a.bas) by simp [eq_comm]]
theorem chk_rt {f:Nat→En}:chk f=true↔Rt f:=by
 constructor
 ·intro h
  have hi:∀i,i<64→rgp (f i)=true∧∀m,m<i→clh (f m) (f i)=false:=fun i hi=>by
   have:=chk_at h hi;unfold okp at this;rw [Bool.and_eq_true,List.all_eq_true] at this;refine ⟨this.1,fun m hm=>?_⟩
   simpa using this.2 m (List.mem_range.2 hm)
  refine ⟨fun i h=>(hi i h).1,fun i j h1 h2 hne=>?_⟩;rcases Nat.lt_or_ge i j with g | g
  ·exact (hi j h2).2 i g
  ·rw [clh_comm];exact (hi i h1).2 j (by omega)
 ·intro h;refine chk_good fun j hj=>?_
  unfold okp;rw [h.one j hj,range_good fun m hm=>h.two m j (by omega) hj (by omega)];rfl
theorem clh_zE (a:En):clh a zE=false:=by simp [clh,tkn_zE]
theorem rgp_zE:rgp zE=true:=rfl
theorem rgp_of {e:En} (h:rgt e=true):rgp e=true:=by
 unfold rgp
 have:tkn e=true:=by
  simp only [rgt,Bool.and_eq_true,decide_eq_true_eq] at h;simp [tkn];omega
 rw [this,if_pos rfl,h]
theorem Rt.upd {f:Nat→En} (h:Rt f) {j:Nat} (hj:j<64) {e:En} (he:rgp e=true) (hc:∀i,i<64→i≠j→clh (f i) e=false):Rt (upd f j e):=by
 refine ⟨fun i hi=>?_,fun i m hi hm hne=>?_⟩
 ·by_cases g:i=j
  ·subst g;rw [upd_same];exact he
  ·rw [upd_ne _ _ g];exact h.one i hi
 ·by_cases g:i=j
  ·subst g;rw [upd_same,upd_ne _ _ (fun e=>hne e.symm),clh_comm];exact hc m hm (fun e=>hne e.symm)
  ·by_cases g2:m=j
   ·subst g2;rw [upd_same,upd_ne _ _ g];exact hc i hi g
   ·rw [upd_ne _ _ g,upd_ne _ _ g2];exact h.two i m hi hm hne
theorem ev1_def (g:Nat→En) (x:Int):ev1 g x=if on g x then upd g (fnd g x).toNat zE else g:=rfl
theorem Rt.ev1 {g:Nat→En} (h:Rt g) (x:Int):Rt (ev1 g x):=by
 rw [ev1_def]
 cases ho:on g x with
 | false=>exact h
 | true=>
  obtain ⟨j,hj,hj64,_⟩:=on_at ho;rw [if_pos rfl,hj,Int.toNat_natCast];exact h.upd hj64 rgp_zE fun i _ _=>clh_zE _
theorem Rt.evs:∀{L:List Int} {f:Nat→En},Rt f→Rt (evs f L)
 | [],_,h=>h
 | x::r,f,h=>Rt.evs (L:=r) (h.ev1 x)
theorem ev1_sub (g:Nat→En) (x:Int) (i:Nat):ev1 g x i=g i∨ev1 g x i=zE:=by
 unfold ev1;split
 ·by_cases h:i=(fnd g x).toNat
  ·right;rw [h,upd_same]
  ·left;rw [upd_ne _ _ h]
 ·exact .inl rfl
theorem evs_sub {i:Nat}:∀{L:List Int} {f:Nat→En},evs f L i=f i∨evs f L i=zE
 | [],_=>.inl rfl
 | x::r,f=>by
  rcases evs_sub (L:=r) (f:=ev1 f x) (i:=i) with h | h
  ·rcases ev1_sub f x i with h2 | h2
   ·left;exact h.trans h2
   ·right;exact h.trans h2
  ·right;exact h
theorem adm_cases (G:Nat→En) (T:List Nat) (J:List Int) (sc bs:Int) (i:Nat):∀k,adm G T J sc bs k i=G i∨∃m,m<k∧i=T.getD m 0∧adm G T J sc bs k i=⟨J.getD m 0,bs+(m:Int),sc⟩
 | 0=>.inl rfl
 | k+1=>by
  rw [adm];by_cases h:i=T.getD k 0
  ·right;exact ⟨k,by omega,h,by rw [h,upd_same]⟩
  ·rw [upd_ne _ _ h];rcases adm_cases G T J sc bs i k with e | ⟨m,h1,h2,h3⟩
   ·exact .inl e
   ·exact .inr ⟨m,by omega,h2,h3⟩
theorem frA_at {f:Nat→En} {bs:Int} {n:Nat} (h:frA f bs n 64=true) {i:Nat} (hi:i<64):¬(bs≤(f i).bas∧(f i).bas<bs+(n:Int)):=by
 intro hc;have:=frA_bad hi (bs:=bs) (n:=n) (f:=f) (by simp [hc.1,hc.2]);rw [h] at this;cases this
/- A move that is answered. -/
structure Mv (f:Nat→En) (L J:List Int) (sc bs:Int):Prop where
 ok:FitOk f L J
 ep:eok sc=true
 fr:fre f bs J.length=true
section
variable {f:Nat→En} {L J:List Int} {sc bs:Int}
theorem mv_of (h:mvE f L J sc bs=0):Mv f L J sc bs:=⟨(mvE_zero h).1,(mvE_zero h).2.1,(mvE_zero h).2.2⟩
theorem Mv.rt (h:Mv f L J sc bs):Rt f:=chk_rt.1 h.ok.chk
theorem Mv.base (h:Mv f L J sc bs) {k:Nat} (hk:k<J.length):1≤bs∧bs+(J.length:Int)≤32768:=fre_bs h.fr (fun e=>by rw [e] at hk;simp at hk)
theorem Mv.fa (h:Mv f L J sc bs) {k:Nat} (hk:k<J.length):frA f bs J.length 64=true:=by
 have:=h.fr;unfold fre at this;rw [decide_eq_false (show ¬J.length=0 by omega)] at this;simp at this;exact this.2
theorem Mv.slots (h:Mv f L J sc bs) {k:Nat} (hk:k<J.length):Slots (evs f L) (mvT f L J) J sc bs k:=h.ok.slots (h.base hk).1 hk
theorem Mv.r (h:mvE f L J sc bs=0):mvR f L J sc bs=adm (evs f L) (mvT f L J) J sc bs J.length:=by unfold mvR;rw [if_pos h]
theorem off_at {f:Nat→En} {x:Int} (h:on f x=false) {i:Nat} (hi:i<64):at' f x i=false:=by
 have:fnd f x=-1:=by rw [on_ne] at h;simpa using h
 exact fnd_none.1 this i hi
theorem not_take {J:List Int} {k m:Nat} (hk:k<J.length) (hm:m<k) (h:J.getD k 0∉J.take k):J.getD m 0≠J.getD k 0:=by
 intro e;apply h
 rw [←e,List.getD_eq_getElem?_getD,List.getElem?_eq_getElem (by omega)];exact List.mem_take_iff_getElem.2 ⟨m,by omega,rfl⟩
theorem Mv.step (h:Mv f L J sc bs):∀k,k≤J.length→Rt (adm (evs f L) (mvT f L J) J sc bs k)
 | 0,_=>h.rt.evs
 | k+1,hk=>by
  have ih:=h.step k (by omega);have hs:=h.slots (show k<J.length by omega);obtain ⟨b1,b2⟩:=h.base (show k<J.length by omega);obtain ⟨j1,j2,j3⟩:=h.ok.jn k (by omega);rw [adm]
  have he:rgt ⟨J.getD k 0,bs+(k:Int),sc⟩=true:=by
   simp only [rgt,Bool.and_eq_true,decide_eq_true_eq];exact ⟨⟨⟨j1,by omega⟩,by omega⟩,h.ep⟩
  refine ih.upd hs.lt (rgp_of he) fun i hi hne=>?_
  cases ht:tkn (adm (evs f L) (mvT f L J) J sc bs k i) with
  | false=>unfold clh;rw [ht];rfl
  | true=>
   have key:(adm (evs f L) (mvT f L J) J sc bs k i).who≠J.getD k 0∧(adm (evs f L) (mvT f L J) J sc bs k i).bas≠bs+(k:Int):=by
    rcases adm_cases (evs f L) (mvT f L J) J sc bs i k with e | ⟨m,m1,m2,m3⟩
    ·rw [e] at ht ⊢;rcases evs_sub (L:=L) (f:=f) (i:=i) with e2 | e2
     ·rw [e2] at ht ⊢;have ha:=off_at j3 hi;unfold at' at ha;rw [ht] at ha;simp at ha;refine ⟨ha,fun e3=>frA_at (h.fa (show k<J.length by omega)) hi ⟨by omega,by omega⟩⟩
     ·rw [e2,tkn_zE] at ht;cases ht
    ·rw [m3];refine ⟨not_take (by omega) m1 (fun hm=>j2 (List.mem_append.2 (.inr hm))),?_⟩;show bs+(m:Int)≠bs+(k:Int)
     omega
   unfold clh alike;rw [decide_eq_false key.1,decide_eq_false key.2];simp
theorem mvR_right (h:mvE f L J sc bs=0):chk (mvR f L J sc bs)=true:=by
 rw [Mv.r h];exact chk_rt.2 ((mv_of h).step J.length (Nat.le_refl _))
end
section
variable {f:Nat→En} {L J:List Int} {sc bs:Int}
/- The slots that are given are free, and unlike. -/
theorem T_free {m:Nat} (hm:m<(mvT f L J).length):(mvT f L J).getD m 0<64∧tkn (evs f L ((mvT f L J).getD m 0))=false:=by
 have h:(mvT f L J).getD m 0∈mvT f L J:=by
  rw [List.getD_eq_getElem?_getD,List.getElem?_eq_getElem hm];exact List.getElem_mem _
 have h2:=mem_bl.1 (List.mem_of_mem_take (show (mvT f L J).getD m 0∈(bl (nt (tk (evs f L)))).take J.length from h));refine ⟨h2.1,?_⟩;have h3:=h2.2;rw [nt_bit (tk_lt _) h2.1,tk_bit _ h2.1] at h3
 simpa using h3
/- Who joins. -/
theorem adm_get (h:Mv f L J sc bs) {m:Nat}:∀k,m<k→k≤J.length→adm (evs f L) (mvT f L J) J sc bs k ((mvT f L J).getD m 0)=⟨J.getD m 0,bs+(m:Int),sc⟩
 | 0,h1,_=>by omega
 | k+1,h1,h2=>by
  rw [adm];by_cases e:m=k
  ·subst e;rw [upd_same]
  ·have ih:=adm_get h (m:=m) k (by omega) (by omega);have hs:=h.slots (show k<J.length by omega)
   have hne:(mvT f L J).getD m 0≠(mvT f L J).getD k 0:=fun e2=>by
    have h3:=hs.free;rw [←e2,ih] at h3;have h4:=(h.base (show k<J.length by omega)).1;simp [tkn] at h3;omega
   rw [upd_ne _ _ hne,ih]
theorem adl_get (T:List Nat) (J:List Int) {m:Nat}:∀k,m<k→(adl T J k).getD m (0,0)=(J.getD m 0,((T.getD m 0:Nat):Int))
 | 0,h=>by omega
 | k+1,h=>by
  rw [adl];by_cases e:m=k
  ·subst e;rw [List.getD_eq_getElem?_getD,List.getElem?_append_right (by rw [adl_length];omega),adl_length];simp
  ·have ih:=adl_get T J (m:=m) k (by omega);rw [List.getD_eq_getElem?_getD,List.getElem?_append_left (by rw [adl_length];omega),←List.getD_eq_getElem?_getD,ih]
end
end Go.Proofs.YtoimkngkcliinaaGreatDoor.Rs
