/- JnO, JnMath, JnT, JnT2, joined. -/
import Derived.Test.YtanaapfobpgibaaGreatDoorJFrA
import Derived.Test.YtanaapfobpgibaaGreatDoorJDkMath
namespace Go.Proofs.YtanaapfobpgibaaGreatDoor
set_option linter.unusedVariables false
set_option maxRecDepth 4000
set_option linter.unusedSimpArgs false
variable {i n:Nat} {o:Oper}
section
variable {P:Program} {ops:Array Oper} {Q:Exit→Act→World→Prop} {md:Region.Mode} {C:Array Bool→World→Prop}
def Till (P:Program) (md:Region.Mode) (ops:Array Oper) (Q:Exit→Act→World→Prop) (C:Array Bool→World→Prop) (n:Nat) (l:Array Bool) (a:Act) (w:World):Prop:=
 match n with
 | 0=>wpAny P md ops Q 0 l a w
 | n+1=>(Region.ready md ops l=[]→Q .normal a w)∧∀i,i∈Region.ready md ops l→wpOp P ops Q i (fun b v=>C (l.setIfInBounds i true) v∧Till P md ops Q C n (l.setIfInBounds i true) b v) a w
theorem Till.any:∀{l:Array Bool} {a:Act} {w:World},Till P md ops Q C n l a w→wpAny P md ops Q n l a w:=by
 induction n with
 | zero=>exact fun h=>h
 | succ n ih=>exact fun h=>⟨h.1,fun i hi=>wpOp_mono (fun _ _ k=>ih k.2) (h.2 i hi)⟩
/- Where the condition holds from here on, whatever comes up, the rest goes as ever. -/
theorem Till.of:∀{l:Array Bool} {a:Act} {w:World} (I:Array Bool→Prop),I l→(∀l i,I l→i∈Region.ready md ops l→I (l.setIfInBounds i true)∧∀v,C (l.setIfInBounds i true) v)→wpAny P md ops Q n l a w→Till P md ops Q C n l a w:=by
 induction n with
 | zero=>exact fun _ _ _ h=>h
 | succ n ih=>exact fun I hI hs h=>⟨h.1,fun i hi=>wpOp_mono (fun _ v k=>⟨(hs _ i hI hi).2 v,ih I (hs _ i hI hi).1 hs k⟩) (h.2 i hi)⟩
/- What may come up does not wait for what may come up beside it. -/
theorem tP {l:Array Bool} {j:Nat} (hi:i∈Region.ready md ops l) (hj:j∈Region.ready md ops l) (ho:ops[j]? =some o):∀e∈o.after,Region.binds md e=true→e.on≠i:=by
 rintro e he hb rfl;have hno:=(mem_ready.1 hi).1;obtain ⟨-,o',ho',hall⟩:=mem_ready.1 hj;cases Option.some.inj (ho.symm.trans ho')
 have adK:=hall e he hb;by_cases hlt:e.on<l.size <;> simp_all
/- An operation is taken ahead of the others: I is what is known of those that have come up as long as it has not. -/
theorem Till.ahead {I:Array Bool→Prop} {S:World→Prop} {oi:Oper} {x:Value} (hi:ops[i]? =some oi) (hs:Region.noSelect ops=true)
  (hQ:∀c a w,Q (.panic c) (a.put oi.dst x) w→Q (.panic c) a w)
  (step:∀l j v,I l→j≠i→i∈Region.ready md ops l→j∈Region.ready md ops l→C ((l.setIfInBounds i true).setIfInBounds j true) v→I (l.setIfInBounds j true)∧C (l.setIfInBounds j true) v)
  (safe:∀l v,I l→C l v→S v∧C (l.setIfInBounds i true) v) (n:Nat):∀(l:Array Bool) (a:Act) (w:World),
   (∀k ok,ops[k]? =some ok→k≠i→l.getD k true=false→(∀e∈ok.after,Region.binds md e=true→e.on≠i)→oi.apart ops ok=true)→
   i∈Region.ready md ops l→I l→C l w→YieldsIf P ops S oi x a→Till P md ops Q C n (l.setIfInBounds i true) (a.put oi.dst x) w→Till P md ops Q C (n+1) l a w:=by
 have sel:=fun j o cs b=>Region.noSelect_spec hs j o cs b
 induction n with
 | zero=>
  intro l a w _ hr hI hC hy H;refine ⟨fun e=>absurd hr (by simp [e]),fun j hj=>?_⟩;obtain rfl | hne:=Decidable.em (j=i)
  ·exact hy.wpOp hi (safe l w hI hC).1 ⟨(safe l w hI hC).2,H⟩
  ·exact absurd (ready_mono hj hne) (by simp [H.1])
 | succ n ih=>
  intro l a w free hr hI hC hy H;refine ⟨fun e=>absurd hr (by simp [e]),fun j hj=>?_⟩;obtain rfl | hne:=Decidable.em (j=i)
  ·exact hy.wpOp hi (safe l w hI hC).1 ⟨(safe l w hI hC).2,H⟩
  ·have hun:=(mem_ready.1 hj).1;obtain ⟨oj,hoj⟩:∃oj,ops[j]? =some oj:=(mem_ready.1 hj).2.imp fun _ h=>h.1
   refine wpOp_mono (fun b v ⟨hyb,hCb,sD⟩=>?_) (wpOp_putIf hoj (free j oj hoj hne hun (tP hr hj hoj)) (fun cs b=>sel i oi cs b hi) (fun cs b=>sel j oj cs b hoj) hQ hy (H.2 j (ready_mono hj hne)));obtain ⟨hI',hC'⟩:=step l j v hI hne hr hj hCb;refine ⟨hC',ih _ b v (fun k ok hk hki iw=>free k ok hk hki ?_) (ready_mono hr (Ne.symm hne)) hI' hC' hyb (by rw [Array.setIfInBounds_comm _ _ hne];exact sD)⟩;obtain rfl | hjk:=Decidable.em (j=k)
   ·exact hun
   ·rwa [getD_set_ne true hjk] at iw
/- The condition S, as long as some of L have not come up. -/
def Ef (L:List Nat) (S:World→Prop) (l:Array Bool) (w:World):Prop:=(∃c∈L,l.getD c true=false)→S w
section
variable {L:List Nat} {S:World→Prop} {n i:Nat} {oi:Oper} {x:Value} {l:Array Bool} {a:Act} {w:World}
/- A load (or whatever yields its value wherever S holds), as long as the call c, one of L, waits for it. -/
theorem Till.take (c:Nat) (hi:ops[i]? =some oi) (hc:c∈L) (Pp:((ops[c]?).any fun oc=>oc.after.any fun e=>Region.binds md e&&e.on==i)=true) (Ll:c≠i) (PW:l.getD c true=false)
  (hs:Region.noSelect ops=true) (hf:Region.free md ops l i=true) (hr:(Region.ready md ops l).contains i=true)
  (hQ:∀c a w,Q (.panic c) (a.put oi.dst x) w→Q (.panic c) a w) (hy:YieldsIf P ops S oi x a) (hS:S w)
  (h:Till P md ops Q (Ef L S) n (l.setIfInBounds i true) (a.put oi.dst x) w):Till P md ops Q (Ef L S) (n+1) l a w:=by
 have acy:∀l j,i∈Region.ready md ops l→j∈Region.ready md ops l→j≠c:=by
  rintro l j h1 h2 rfl
  cases ho:ops[j]? with
  | none=>simp [ho] at Pp
  | some oc=>
   simp only [ho,Option.any_some,Array.any_eq_true,Bool.and_eq_true,beq_iff_eq] at Pp;obtain ⟨k,hk,hb,iF⟩:=Pp;exact tP h1 h2 ho _ (Array.getElem_mem hk) hb iF
 refine Till.ahead (I:=fun l=>l.getD c true=false) (S:=S) hi hs hQ (fun l j v hI hne h1 h2 hC=>?_) (fun l v hI hC=>⟨hC ⟨c,hc,hI⟩,fun _=>hC ⟨c,hc,hI⟩⟩) n l a w (Region.free_spec hi hf) (by simpa using hr) PW (fun _=>hS) hy h;have hj:=acy l j h1 h2;exact ⟨by rw [getD_set_ne true hj];exact hI,fun _=>hC ⟨c,hc,by rw [getD_set_ne true hj,getD_set_ne true (Ne.symm Ll)];exact hI⟩⟩
/- What yields its value in whatever world, and is none of L. -/
theorem Till.MX (hi:ops[i]? =some oi) (hiL:i∉L)
  (hs:Region.noSelect ops=true) (hf:Region.free md ops l i=true) (hr:(Region.ready md ops l).contains i=true)
  (hQ:∀c a w,Q (.panic c) (a.put oi.dst x) w→Q (.panic c) a w) (hy:YieldsIf P ops (fun _=>True) oi x a) (hS:S w)
  (h:Till P md ops Q (Ef L S) n (l.setIfInBounds i true) (a.put oi.dst x) w):Till P md ops Q (Ef L S) (n+1) l a w:=by
 have ne:∀c∈L,i≠c:=fun c hc e=>hiL (e ▸ hc)
 refine Till.ahead (I:=fun _=>True) (S:=fun _=>True) hi hs hQ (fun l j v _ hne _ _ hC=>⟨trivial,fun ⟨c,hc,he⟩=>hC ⟨c,hc,?_⟩⟩) (fun l v _ hC=>⟨trivial,fun ⟨c,hc,he⟩=>hC ⟨c,hc,?_⟩⟩) n l a w (Region.free_spec hi hf) (by simpa using hr) trivial (fun _=>hS) hy h
 ·rw [←Array.setIfInBounds_comm _ _ hne,getD_set_ne true (ne c hc)];exact he
 ·rwa [getD_set_ne true (ne c hc)] at he
/- One operation alone may come up. -/
theorem Till.one (ho:ops[i]? =some o) (hr:Region.ready md ops l=[i])
  (h:∀K:Act→World→Prop,Shut (∀b v,((∃c∈L,(l.setIfInBounds i true).getD c true=false)→S v)→Till P md ops Q (Ef L S) n (l.setIfInBounds i true) b v→K b v)→if Region.wanted o (yielded ops a.tmps)=true then Oper.wp P o a w K Q else K (a.put o.dst undef) w):Till P md ops Q (Ef L S) (n+1) l a w:=by
 refine ⟨fun e=>absurd (hr.symm.trans e) (by simp),fun j hj=>?_⟩;rw [hr,List.mem_singleton] at hj;subst hj;exact wpOp_step ho fun K hK=>h K fun b v h1 h2=>hK b v ⟨h1,h2⟩
/- All of L have come up. -/
theorem Till.rest (hl:(L.all fun c=>l.getD c true)=true) (h:wpAny P md ops Q n l a w):Till P md ops Q (Ef L S) n l a w:=by
 refine Till.of (fun l=>∀c∈L,l.getD c true=true) (List.all_eq_true.1 hl) (fun l i hI hi=>?_) h
 have hI':∀c∈L,(l.setIfInBounds i true).getD c true=true:=fun c hc=>by
  obtain rfl | hne:=Decidable.em (i=c)
  ·exact absurd ((mem_ready.1 hi).1.symm.trans (hI i hc)) (by decide)
  ·rw [getD_set_ne true hne];exact hI c hc
 exact ⟨hI',fun v ⟨c,hc,he⟩=>absurd ((hI' c hc).symm.trans he) (by decide)⟩
theorem Till.region {id:Nat} (L:List Nat) (S:World→Prop) (hm:P.follows .mixedOrders=true)
  (h:Till P .any ops Q (Ef L S) ops.size (Array.replicate ops.size false) a w.drew):(Code.region id ops true).wp P Q a w:=
 wp_region_any hm h.any
end
end
end Go.Proofs.YtanaapfobpgibaaGreatDoor
namespace Go.Proofs.YtanaapfobpgibaaGreatDoor.Jr.Dk
open Go.RowKit Go.Maps
set_option linter.unusedVariables false
set_option maxRecDepth 4000
set_option linter.unusedSimpArgs false
variable {p:Int×ByteArray} {L:List (Int×ByteArray)} {s:St} {t:ByteArray} {c:Nat}
def wl:List (Int×ByteArray)→St→St×Bool
 | [],s=>(s,true)
 | p::L,s=>if (nx s p.1 p.2).left=0 then (nx s p.1 p.2,false) else wl L (nx s p.1 p.2)
theorem EL (h:(nx s p.1 p.2).left=0):wl (p::L) s=(nx s p.1 p.2,false):=by rw [wl,if_pos h]
theorem Hi (h:(nx s p.1 p.2).left≠0):wl (p::L) s=wl L (nx s p.1 p.2):=by rw [wl,if_neg h]
def pT:List ByteArray→Nat→List (Int×ByteArray)
 | [],_=>[]
 | t::l,a=>if t.size=0 then pT l (a+1) else ((a:Int),⟨#[]⟩)::pT l (a+1)
def ov:List ByteArray→Nat→List (Int×ByteArray)
 | [],_=>[]
 | t::l,a=>((a:Int),t)::ov l (a+1)
theorem pF:∀(l:List ByteArray) (a:Nat),(ov l a).length=l.length
 | [],a=>rfl
 | t::l,a=>by rw [ov,List.length_cons,pF l (a+1),List.length_cons]
theorem vQ:∀(l:List ByteArray) (a:Nat),a+l.length≤2048→(∀t∈l,t.size≤32)→∀p∈ov l a,Gp p
 | [],a,_,_,p,hp=>by simp [ov] at hp
 | t::l,a,h1,h2,p,hp=>by
  rw [List.length_cons] at h1;rw [ov] at hp;rcases List.mem_cons.1 hp with rfl | hp
  ·exact ⟨by show (0:Int)≤(a:Int);omega,by show (a:Int)<2048;omega,h2 t (by simp)⟩
  ·exact vQ l (a+1) (by omega) (fun x hx=>h2 x (by simp [hx])) p hp
theorem u_:∀(l:List ByteArray) (a:Nat),a+l.length≤2048→∀p∈pT l a,Gp p
 | [],a,_,p,hp=>by simp [pT] at hp
 | t::l,a,h1,p,hp=>by
  rw [List.length_cons] at h1;rw [pT] at hp;split at hp
  ·exact u_ l (a+1) (by omega) p hp
  ·rcases List.mem_cons.1 hp with rfl | hp
   ·exact ⟨by show (0:Int)≤(a:Int);omega,by show (a:Int)<2048;omega,by show (⟨#[]⟩:ByteArray).size≤32;decide⟩
   ·exact u_ l (a+1) (by omega) p hp
theorem FE (s:St) (x:Int) (t:ByteArray):(nx s x t).log.length≤s.log.length+1:=by
 unfold nx;split <;> simp
theorem MG:∀(L:List (Int×ByteArray)) (s:St),(wl L s).1.log.length≤s.log.length+L.length
 | [],s=>by simp [wl]
 | p::L,s=>by
  have h1:=FE s p.1 p.2;have h2:=MG L (nx s p.1 p.2);rw [wl];split <;> simp <;> omega
theorem Ow {x:Int} (h0:s.left≠0) (hg:Gp (x,t)):nx s x t=⟨s.mX,s.log++[(x,t)],nl s.left⟩:=by
 unfold nx;rw [if_pos (zJ h0 hg)]
theorem zI:∀(L:List (Int×ByteArray)) (s:St),s.left=-1→(∀p∈L,Gp p)→wl L s=(⟨s.mX,s.log++L,-1⟩,true)
 | [],s,h,_=>by rw [wl,List.append_nil,←h]
 | p::L,s,h,hg=>by
  have e:=Ow (s:=s) (x:=p.1) (t:=p.2) (by rw [h];decide) (hg p (by simp));have e1:nl s.left=-1:=by rw [h];rfl
  rw [e1] at e;rw [Hi (by rw [e];show (-1:Int)≠0;decide),e,zI L _ rfl (fun q hq=>hg q (by simp [hq]))];simp
theorem EM:∀(L:List (Int×ByteArray)) (s:St) (n:Nat),s.left=(n:Int)→1≤n→(∀p∈L,Gp p)→wl L s=if L.length<n then (⟨s.mX,s.log++L,((n - L.length:Nat):Int)⟩,true) else (⟨s.mX,s.log++L.take n,0⟩,false)
 | [],s,n,h,h1,_=>by rw [wl,if_pos (by simp;omega),List.append_nil,List.length_nil,Nat.sub_zero,←h]
 | p::L,s,n,h,h1,hg=>by
  have e:=Ow (s:=s) (x:=p.1) (t:=p.2) (by rw [h];omega) (hg p (by simp));have e1:nl s.left=((n - 1:Nat):Int):=by rw [h];unfold nl;rw [if_neg (by omega)];omega
  rw [e1] at e;by_cases h2:n=1
  ·subst h2;rw [EL (by rw [e];rfl),e,if_neg (by simp)];simp
  ·have ih:=EM L ⟨s.mX,s.log++[p],((n - 1:Nat):Int)⟩ (n - 1) rfl (by omega) (fun q hq=>hg q (by simp [hq]));rw [Hi (by rw [e];show ((n - 1:Nat):Int)≠0;omega),e,ih];obtain ⟨m,rfl⟩:∃m,n=m+1:=⟨n - 1,by omega⟩;simp only [Nat.add_sub_cancel,List.length_cons,List.take_succ_cons,List.append_assoc,List.singleton_append];by_cases h3:L.length<m
   ·rw [if_pos h3,if_pos (by omega),show m+1 - (L.length+1)=m - L.length by omega]
   ·rw [if_neg h3,if_neg (by omega)]
/- Opening. -/
def BI (s:St):Nat:=(sc 65535 (im s.bl) 1).2
def zZ (s:St):List ByteArray:=(sc 65535 (im s.bl) 1).1
def yS (s:St):List (Int×ByteArray):=pT ((im s.bl).drop (BI s)) (BI s)
def xY (s:St):St:=if s.left=0 then s else (wl (yS s) s).1
def yT (s:St):Bool:=if s.left=0 then false else (wl (yS s) s).2
theorem aaE (s:St):(zZ s).length≤BI s∧BI s≤2048:=by
 obtain ⟨h1,h2,h3⟩:=zY 65535 (im s.bl) 1;have:=zS s.bl;rw [sB] at h2;exact ⟨h1,by unfold BI;omega⟩
theorem Oo (s:St):∀p∈yS s,Gp p:=by
 obtain ⟨h1,h2,h3⟩:=zY 65535 (im s.bl) 1;have:=zS s.bl;unfold yS;refine u_ _ _ ?_;rw [List.length_drop];unfold BI;rw [sB] at h2 ⊢;omega
/- Appending. -/
def Bu (c a:Nat) (t:ByteArray):List (Int×ByteArray):=ov (eO ((c+1:Nat):Int) t) a
def mf (s:St) (c a:Nat) (d:Bool) (t:ByteArray):Int:=if d=true∨s.left=0 then 11 else if 5865<t.size then 9 else if 2048<a+np t.size∨65535≤c then 10 else if (wl (Bu c a t) s).2=true then 0 else 11
def ml (s:St) (c a:Nat) (d:Bool) (t:ByteArray):St:=if d=true∨s.left=0 then s else if 5865<t.size then s else if 2048<a+np t.size∨65535≤c then s else (wl (Bu c a t) s).1
def tU (s:St) (c a:Nat) (d:Bool) (t:ByteArray):Nat:=if mf s c a d t=0 then c+1 else c
def tV (s:St) (c a:Nat) (d:Bool) (t:ByteArray):Nat:=if mf s c a d t=0 then a+np t.size else a
def tS (s:St) (c a:Nat) (d:Bool) (t:ByteArray):Bool:=if mf s c a d t=11 then true else d
theorem JK (c a:Nat) (t:ByteArray):(Bu c a t).length=np t.size:=by unfold Bu;rw [pF,ba]
theorem Aq (h:c<65535):gs ((c+1:Nat):Int)=true:=by unfold gs;rw [Bool.and_eq_true];exact ⟨decide_eq_true (by omega),decide_eq_true (by omega)⟩
theorem D9 {a:Nat} (h1:t.size≤5865) (h2:a+np t.size≤2048) (h3:c<65535):∀p∈Bu c a t,Gp p:=
 vQ _ _ (by rw [ba];exact h2) (fun x hx=>by rw [lf (Aq h3) h1 x hx];decide)
theorem JL (s:St) (c a:Nat) (d:Bool) (t:ByteArray):(ml s c a d t).log.length≤s.log.length+255:=by
 unfold ml;split
 ·omega
 ·split
  ·omega
  ·rename_i h
   split
   ·omega
   ·have h1:=MG (Bu c a t) s;rw [JK] at h1;have h2:=(cY t.size (by omega)).2.2.1;omega
theorem ng (l:List ByteArray) (i:Nat):kY l (i:Int)=l.getD i ⟨#[]⟩:=by unfold kY;rw [if_pos (by omega)];rfl
theorem uP (l:List ByteArray) (x:Int) (h:x<0):kY l x=⟨#[]⟩:=by unfold kY;rw [if_neg (by omega)]
theorem UN {l m:List ByteArray} (h:∀i,l.getD i ⟨#[]⟩=m.getD i ⟨#[]⟩):kY l=kY m:=by
 funext x
 by_cases hx:x<0
 ·rw [uP _ _ hx,uP _ _ hx]
 ·obtain ⟨i,rfl⟩:∃i:Nat,x=(i:Int):=⟨x.toNat,by omega⟩;rw [ng,ng,h i]
theorem kC (l m:List ByteArray) (i:Nat) (h:i<l.length):(l++m).getD i ⟨#[]⟩=l.getD i ⟨#[]⟩:=by
 simp [List.getD_eq_getElem?_getD,List.getElem?_append,h]
theorem dK (l m:List ByteArray) (i:Nat):(l++m).getD (l.length+i) ⟨#[]⟩=m.getD i ⟨#[]⟩:=by
 rw [List.getD_eq_getElem?_getD,List.getElem?_append_right (by omega),Nat.add_sub_cancel_left,List.getD_eq_getElem?_getD]
theorem zn (l:List ByteArray) (n:Nat):kY (l++List.replicate n ⟨#[]⟩)=kY l:=by
 apply UN
 intro i;by_cases h:i<l.length
 ·exact kC _ _ i h
 ·obtain ⟨k,rfl⟩:∃k,i=l.length+k:=⟨i - l.length,by omega⟩;rw [dK,qK l _ (by omega)];by_cases hk:k<n
  ·simp [List.getD_eq_getElem?_getD,hk]
  ·rw [qK _ _ (by simp;omega)]
theorem Co (P:List ByteArray) (y z:ByteArray) (Y:List ByteArray):my (kY (P++y::Y)) (P.length:Int) z=kY (P++z::Y):=by
 funext x
 by_cases hx:x<0
 ·rw [uP _ _ hx,dy _ _ (by omega),uP _ _ hx]
 ·obtain ⟨i,rfl⟩:∃i:Nat,x=(i:Int):=⟨x.toNat,by omega⟩;by_cases e:i=P.length
  ·subst e;rw [nZ,ng];have:=dK P (z::Y) 0;rw [Nat.add_zero] at this;rw [this];rfl
  ·rw [dy _ _ (by omega),ng,ng];by_cases h:i<P.length
   ·rw [kC _ _ i h,kC _ _ i h]
   ·obtain ⟨k,rfl⟩:∃k,i=P.length+(k+1):=⟨i - P.length - 1,by omega⟩;rw [dK,dK];rfl
theorem over:∀(Z P Y:List ByteArray),rp (kY (P++Y)) (ov Z P.length)=kY (P++Z++Y.drop Z.length)
 | [],P,Y=>by simp [ov,rp]
 | z::Z,P,Y=>by
  have hstep:my (kY (P++Y)) (P.length:Int) z=kY (P++[z]++Y.drop 1):=by
   cases Y with
   | nil=>
    have:=Co P ⟨#[]⟩ z [];rw [show P++[(⟨#[]⟩:ByteArray)]=P++List.replicate 1 ⟨#[]⟩ from rfl,zn] at this
    simpa using this
   | cons y Y=>
    rw [Co];simp
  show rp (my (kY (P++Y)) (P.length:Int) z) (ov Z (P.length+1))=_
  rw [hstep];have ih:=over Z (P++[z]) (Y.drop 1);rw [List.length_append,List.length_singleton] at ih;rw [ih];simp [Nat.add_comm]
theorem yD (B:Bl) (L M:List (Int×ByteArray)):rp B (L++M)=rp (rp B L) M:=by simp [rp]
theorem vP:∀(l:List ByteArray) (a k:Nat),(ov l a).take k=ov (l.take k) a
 | [],a,k=>by simp [ov]
 | t::l,a,0=>by simp [ov]
 | t::l,a,k+1=>by rw [ov,List.take_succ_cons,vP l (a+1) k,List.take_succ_cons,ov]
theorem yt:∀(n:Nat) (X:List ByteArray) (a:Nat),pT (List.replicate n ⟨#[]⟩++X) a=pT X (a+n)
 | 0,X,a=>by simp
 | n+1,X,a=>by
  rw [List.replicate_succ,List.cons_append,pT,if_pos (show (⟨#[]⟩:ByteArray).size=0 from rfl),yt n X (a+1),show a+1+n=a+(n+1) by omega]
theorem Hh:∀(X:List ByteArray) (a:Nat),(∀t∈X,t.size≠0)→pT X a=ov (List.replicate X.length ⟨#[]⟩) a
 | [],a,_=>rfl
 | t::X,a,h=>by
  rw [pT,if_neg (h t (by simp)),Hh X (a+1) (fun x hx=>h x (by simp [hx])),List.length_cons,List.replicate_succ,ov]
theorem Wj (l:List ByteArray) (h1:l.length≤2048) (h2:l=[]∨(l.getD (l.length - 1) ⟨#[]⟩).size≠0):im (kY l)=l:=by
 have ht:top (kY l)=l.length:=by
  refine MN h1 ?_ ?_
  ·rcases h2 with rfl | h2
   ·exact .inl rfl
   ·by_cases h0:l.length=0
    ·exact .inl h0
    ·right
     rw [show ((l.length:Nat):Int) - 1=((l.length - 1:Nat):Int) by omega,ng];exact h2
  ·intro i hi _;rw [ng,qK _ _ hi];rfl
 unfold im;rw [ht];apply List.ext_getElem
 ·simp
 ·intro i h3 h4;have e1:(tx (kY l) l.length)[i]=kY l (i:Int):=by simp [tx]
  rw [e1,ng,jE _ _ h4]
/- The blocks behind the records: the first j of k are wiped. -/
def tl (q:Nat) (t:ByteArray) (k j:Nat):List ByteArray:=List.replicate j ⟨#[]⟩++((eO (q:Int) t).take k).drop j
structure Hs (s:St) (ps:List ByteArray) (t:ByteArray) (k j:Nat):Prop where
 ok:s.Ok
 sz:∀p∈ps,p.size≤5865
 XA:t.size≤5865
 hk:k<np t.size
 hj:j≤k
 fit:(recs 1 ps).length+k≤2048
 bl:s.bl=kY (recs 1 ps++tl (ps.length+1) t k j)
theorem yy {q:Nat} {t:ByteArray} {k j:Nat} (hk:k<np t.size) (hj:j≤k):(tl q t k j).length=k:=by
 unfold tl;rw [List.length_append,List.length_replicate,List.length_drop,List.length_take,ba];omega
section
variable {s:St} {ps:List ByteArray} {t:ByteArray} {k j:Nat}
theorem Hs.cnt (h:Hs s ps t k j):ps.length≤(recs 1 ps).length∧ps.length≤2048:=by
 have:=Cy ps 1 h.sz;have:=h.fit;omega
theorem Hs.num (h:Hs s ps t k j):gs ((ps.length+1:Nat):Int)=true:=Aq (by have:=h.cnt;omega)
theorem Hs.rsz (h:Hs s ps t k j):∀x∈recs 1 ps,x.size=32:=yG ps 1 (by omega) (by have:=h.cnt;omega) h.sz
theorem K8 {l:List ByteArray} (h:∀x∈l,x.size=32):l=[]∨(l.getD (l.length - 1) ⟨#[]⟩).size≠0:=by
 by_cases h0:l=[]
 ·exact .inl h0
 ·right
  have hp:0<l.length:=List.length_pos_iff.2 h0;rw [jE _ _ (by omega),h _ (List.getElem_mem _)];decide
theorem SZ (q:Nat) (t:ByteArray) (k:Nat) (hk:k<np t.size):tl q t k k=List.replicate k ⟨#[]⟩:=by
 unfold tl;rw [List.drop_eq_nil_of_le (by rw [List.length_take];omega),List.append_nil]
theorem Hs.clean (h:Hs s ps t k k):s.bl=kY (recs 1 ps):=by rw [h.bl,SZ _ _ _ h.hk,zn]
theorem Hs.zero (h:Hs s ps t k k):Hs s ps ⟨#[]⟩ 0 0:=by
 refine ⟨h.ok,h.sz,by decide,by decide,Nat.le_refl _,by have:=h.fit;omega,?_⟩;rw [h.clean];simp [tl]
theorem Hs.image (h:Hs s ps t k j):im s.bl=recs 1 ps++(if j<k then tl (ps.length+1) t k j else []):=by
 by_cases hjk:j<k
 ·rw [if_pos hjk,h.bl];refine Wj _ ?_ ?_
  ·rw [List.length_append,yy h.hk h.hj];exact h.fit
  ·right
   have hl:(recs 1 ps++tl (ps.length+1) t k j).length - 1=(recs 1 ps).length+(k - 1):=by
    rw [List.length_append,yy h.hk h.hj];omega
   rw [hl,dK]
   have e1:(tl (ps.length+1) t k j).getD (k - 1) ⟨#[]⟩=(eO ((ps.length+1:Nat):Int) t).getD (k - 1) ⟨#[]⟩:=by
    unfold tl;have:=dK (List.replicate j ⟨#[]⟩) (((eO ((ps.length+1:Nat):Int) t).take k).drop j) (k - 1 - j);rw [List.length_replicate,show j+(k - 1 - j)=k - 1 by omega] at this;rw [this];simp only [List.getD_eq_getElem?_getD,List.getElem?_drop,List.getElem?_take];rw [if_pos (by omega),show j+(k - 1 - j)=k - 1 by omega]
   have mj:k - 1<(eO ((ps.length+1:Nat):Int) t).length:=by rw [ba];have:=h.hk;omega
   rw [e1,jE _ _ mj,lf h.num h.XA _ (List.getElem_mem _)];decide
 ·obtain rfl:j=k:=by have:=h.hj;omega
  rw [if_neg hjk,h.clean,List.append_nil];exact Wj _ (by have:=h.fit;omega) (K8 h.rsz)
theorem Hs.noh (h:Hs s ps t k j):Noh (if j<k then tl (ps.length+1) t k j else []) (1+ps.length):=by
 by_cases hjk:j<k
 ·rw [if_pos hjk]
  cases j with
  | zero=>
   have e:tl (ps.length+1) t k 0=(eO ((ps.length+1:Nat):Int) t).take k:=by simp [tl]
   rw [e,Nat.add_comm 1];exact OG t (ps.length+1) k h.num h.XA h.hk
  | succ j=>
   unfold tl;rw [List.replicate_succ,List.cons_append];exact KY _ _
 ·rw [if_neg hjk];exact TQ _
theorem Hs.scan (h:Hs s ps t k j):zZ s=ps∧BI s=(recs 1 ps).length:=by
 have h1:=h.cnt;unfold zZ BI;rw [h.image,Hz ps 65535 1 _ (by omega) (by omega) (by omega) h.sz h.noh];exact ⟨rfl,rfl⟩
theorem Hs.VG (h:Hs s ps t k j):yS s=ov (List.replicate (k - j) ⟨#[]⟩) ((recs 1 ps).length+j):=by
 unfold yS;rw [h.scan.2,h.image,List.drop_left' rfl];by_cases hjk:j<k
 ·rw [if_pos hjk];unfold tl;rw [yt,Hh]
  ·rw [List.length_drop,List.length_take,ba,Nat.min_eq_left (by have:=h.hk;omega)]
  ·intro x hx;rw [lf h.num h.XA x (List.mem_of_mem_take (List.mem_of_mem_drop hx))];decide
 ·rw [if_neg hjk,show k - j=0 by omega];rfl
theorem Hs.aar (h:Hs s ps t k j) (m:Nat) (hm:m≤k - j):rp (kY (recs 1 ps++tl (ps.length+1) t k j)) (ov (List.replicate m ⟨#[]⟩) ((recs 1 ps).length+j))=kY (recs 1 ps++tl (ps.length+1) t k (j+m)):=by
 have e:=over (List.replicate m ⟨#[]⟩) (recs 1 ps++List.replicate j ⟨#[]⟩) (((eO ((ps.length+1:Nat):Int) t).take k).drop j);rw [List.length_append,List.length_replicate,List.length_replicate,List.drop_drop] at e;unfold tl;rw [←List.append_assoc,e,List.append_assoc (recs 1 ps),List.replicate_append_replicate,List.append_assoc]
/- Opening. -/
theorem Hs.sk (h:Hs s ps t k j) (m:Nat) (hm:m≤k - j) (left:Int) (h1: -1≤left) (h2:left≤9223372036854775807):Hs ⟨s.mX,s.log++ov (List.replicate m ⟨#[]⟩) ((recs 1 ps).length+j),left⟩ ps t k (j+m):=by
 refine ⟨⟨h.ok.i1,h.ok.i2,?_,h1,h2⟩,h.sz,h.XA,h.hk,by have:=h.hj;omega,h.fit,?_⟩
 ·intro p hp;rcases List.mem_append.1 hp with hp | hp
  ·exact h.ok.l1 p hp
  ·refine vQ _ _ ?_ ?_ p hp
   ·rw [List.length_replicate];have:=h.fit;have:=h.hj;omega
   ·intro x hx;rw [List.eq_of_mem_replicate hx];decide
 ·show rp (kY s.mX) (s.log++_)=_
  rw [yD,show rp (kY s.mX) s.log=s.bl from rfl,h.bl,h.aar m hm]
/- What an opening leaves. -/
structure Z8 (s:St) (ps:List ByteArray) (t:ByteArray) (k j:Nat):Prop where
 found:zZ s=ps
 ended:BI s=(recs 1 ps).length
 yes:yT s=true→Hs (xY s) ps t k k∧(xY s).left≠0∧(xY s).log.length=s.log.length+(k - j)
 no:yT s=false→∃m,m≤k - j∧Hs (xY s) ps t k (j+m)∧(xY s).log.length=s.log.length+m
 much:s.left=-1∨254<s.left→yT s=true
theorem Hs.opened (h:Hs s ps t k j):Z8 s ps t k j:=by
 have hg:=Oo s;have hjk:=h.hj;have abf:k≤254:=by have:=h.hk;have:=(cY t.size h.XA).2.2.1;omega
 have hw:=h.VG;have h1:=h.ok.p1;have h2:=h.ok.p2;have hB:yT s=if s.left=0 then false else (wl (yS s) s).2:=rfl
 have hS:xY s=if s.left=0 then s else (wl (yS s) s).1:=rfl
 by_cases h0:s.left=0
 ·rw [if_pos h0] at hB hS;refine ⟨h.scan.1,h.scan.2,fun e=>(by rw [hB] at e;cases e),fun _=>⟨0,by omega,?_,by rw [hS];rfl⟩,fun e=>(by omega)⟩;rw [hS];exact h
 ·rw [if_neg h0] at hB hS;have hlen:(yS s).length=k - j:=by rw [hw,pF,List.length_replicate]
  by_cases hf:s.left=-1
  ·have e:=zI (yS s) s hf hg;rw [e] at hB hS;refine ⟨h.scan.1,h.scan.2,fun _=>⟨?_,by rw [hS];show (-1:Int)≠0;decide,by rw [hS];show (s.log++yS s).length=_;rw [List.length_append,hlen]⟩,fun e=>(by rw [hB] at e;cases e),fun _=>hB⟩;have:=h.sk (k - j) (Nat.le_refl _) (-1) (by decide) (by decide);rw [show j+(k - j)=k by omega] at this;rw [hS,hw];exact this
  ·obtain ⟨n,hn⟩:∃n:Nat,s.left=(n:Int):=⟨s.left.toNat,by omega⟩;have e:=EM (yS s) s n hn (by omega) hg;rw [hlen] at e;by_cases hlt:k - j<n
   ·rw [if_pos hlt] at e;rw [e] at hB hS;refine ⟨h.scan.1,h.scan.2,fun _=>⟨?_,by rw [hS];show ((n - (k - j):Nat):Int)≠0;omega,by rw [hS];show (s.log++yS s).length=_;rw [List.length_append,hlen]⟩,fun e=>(by rw [hB] at e;cases e),fun _=>hB⟩;have:=h.sk (k - j) (Nat.le_refl _) ((n - (k - j):Nat):Int) (by omega) (by omega);rw [show j+(k - j)=k by omega] at this;rw [hS,hw];exact this
   ·rw [if_neg hlt] at e;rw [e] at hB hS;refine ⟨h.scan.1,h.scan.2,fun e=>(by rw [hB] at e;cases e),fun _=>⟨n,by omega,?_,?_⟩,fun e=>(by omega)⟩
    ·have:=h.sk n (by omega) 0 (by decide) (by decide);rw [hS,hw,vP,List.take_replicate,Nat.min_eq_left (by omega)];exact this
    ·rw [hS];show (s.log++(yS s).take n).length=_
     rw [List.length_append,List.length_take,hlen,Nat.min_eq_left (by omega)]
end
theorem ij (ps:List ByteArray) (t:ByteArray):recs 1 (ps++[t])=recs 1 ps++eO ((ps.length+1:Nat):Int) t:=by
 rw [yF,Nat.add_comm 1]
section
variable {s:St} {ps:List ByteArray} {t:ByteArray}
theorem Hs.Zz (h:Hs s ps ⟨#[]⟩ 0 0):s.bl=kY (recs 1 ps):=h.clean
theorem Hs.put (h:Hs s ps ⟨#[]⟩ 0 0) (m:Nat):rp (kY s.mX) (s.log++(Bu ps.length (recs 1 ps).length t).take m)=kY (recs 1 ps++(eO ((ps.length+1:Nat):Int) t).take m):=by
 have e:=over ((eO ((ps.length+1:Nat):Int) t).take m) (recs 1 ps) [];rw [List.append_nil,List.drop_nil,List.append_nil] at e;rw [yD,show rp (kY s.mX) s.log=s.bl from rfl,h.Zz];unfold Bu;rw [vP];exact e
theorem Hs.NS (h:Hs s ps ⟨#[]⟩ 0 0) (ht:t.size≤5865) (hf:(recs 1 ps).length+np t.size≤2048) (m:Nat) (left:Int) (h1: -1≤left) (h2:left≤9223372036854775807):St.Ok ⟨s.mX,s.log++(Bu ps.length (recs 1 ps).length t).take m,left⟩:=by
 refine ⟨h.ok.i1,h.ok.i2,?_,h1,h2⟩;intro p hp;rcases List.mem_append.1 hp with hp | hp
 ·exact h.ok.l1 p hp
 ·exact D9 ht hf (by have:=h.cnt;omega) p (List.mem_of_mem_take hp)
theorem Hs.Ag (h:Hs s ps ⟨#[]⟩ 0 0) (ht:t.size≤5865) (hf:(recs 1 ps).length+np t.size≤2048) (m:Nat) (hm:np t.size≤m) (left:Int) (h1: -1≤left) (h2:left≤9223372036854775807):Hs ⟨s.mX,s.log++(Bu ps.length (recs 1 ps).length t).take m,left⟩ (ps++[t]) ⟨#[]⟩ 0 0:=by
 refine ⟨h.NS ht hf m left h1 h2,?_,by decide,by decide,Nat.le_refl _,?_,?_⟩
 ·intro p hp;rcases List.mem_append.1 hp with hp | hp
  ·exact h.sz p hp
  ·simp at hp;subst hp;exact ht
 ·rw [ij,List.length_append,ba];omega
 ·show rp (kY s.mX) (s.log++_)=_
  rw [h.put m,ij,List.take_of_length_le (by rw [ba];exact hm)];simp [tl]
theorem Hs.NR (h:Hs s ps ⟨#[]⟩ 0 0) (ht:t.size≤5865) (hf:(recs 1 ps).length+np t.size≤2048) (m:Nat) (hm:m<np t.size) (left:Int) (h1: -1≤left) (h2:left≤9223372036854775807):Hs ⟨s.mX,s.log++(Bu ps.length (recs 1 ps).length t).take m,left⟩ ps t m 0:=by
 refine ⟨h.NS ht hf m left h1 h2,h.sz,ht,hm,Nat.zero_le _,by omega,?_⟩;show rp (kY s.mX) (s.log++_)=_
 rw [h.put m];simp [tl]
structure aai (s:St) (ps:List ByteArray) (t:ByteArray):Prop where
 ok:mf s ps.length (recs 1 ps).length false t=0→t.size≤5865∧Hs (ml s ps.length (recs 1 ps).length false t) (ps++[t]) ⟨#[]⟩ 0 0∧(ml s ps.length (recs 1 ps).length false t).left≠0∧(ml s ps.length (recs 1 ps).length false t).log.length=s.log.length+np t.size
 not:mf s ps.length (recs 1 ps).length false t≠0→mf s ps.length (recs 1 ps).length false t≠11→ml s ps.length (recs 1 ps).length false t=s∧s.left≠0∧((mf s ps.length (recs 1 ps).length false t=9∧5865<t.size)∨(mf s ps.length (recs 1 ps).length false t=10∧t.size≤5865∧(2048<(recs 1 ps).length+np t.size∨65535≤ps.length)))
 down:mf s ps.length (recs 1 ps).length false t=11→∃m,(ml s ps.length (recs 1 ps).length false t).log.length=s.log.length+m∧((t.size≤5865∧m=np t.size∧Hs (ml s ps.length (recs 1 ps).length false t) (ps++[t]) ⟨#[]⟩ 0 0)∨(¬(t.size≤5865∧m=np t.size)∧∃t' k,Hs (ml s ps.length (recs 1 ps).length false t) ps t' k 0))
 free:s.left=-1→mf s ps.length (recs 1 ps).length false t≠11∧(ml s ps.length (recs 1 ps).length false t).left=-1∧(mf s ps.length (recs 1 ps).length false t=0→ml s ps.length (recs 1 ps).length false t=⟨s.mX,s.log++ov (eO ((ps.length+1:Nat):Int) t) (recs 1 ps).length,-1⟩)
theorem Hs.appended (h:Hs s ps ⟨#[]⟩ 0 0) (t:ByteArray):aai s ps t:=by
 have ad1:=h.cnt;have p1:=h.ok.p1;have p2:=h.ok.p2;have hE:mf s ps.length (recs 1 ps).length false t=if false=true∨s.left=0 then 11 else if 5865<t.size then 9 else if 2048<(recs 1 ps).length+np t.size∨65535≤ps.length then 10 else if (wl (Bu ps.length (recs 1 ps).length t) s).2=true then 0 else 11:=rfl
 have hS:ml s ps.length (recs 1 ps).length false t=if false=true∨s.left=0 then s else if 5865<t.size then s else if 2048<(recs 1 ps).length+np t.size∨65535≤ps.length then s else (wl (Bu ps.length (recs 1 ps).length t) s).1:=rfl
 by_cases h0:s.left=0
 ·rw [if_pos (.inr h0)] at hE hS;rw [show (aai s ps t)=aai s ps t from rfl];constructor
  ·rw [hE];intro e;cases e
  ·rw [hE];intro _ e;exact absurd rfl e
  ·intro _;refine ⟨0,by rw [hS];rfl,.inr ⟨fun e=>?_,⟨#[]⟩,0,by rw [hS];exact h⟩⟩;have:=(cY t.size e.1).2.1;omega
  ·intro e;omega
 ·have hz:¬(false=true∨s.left=0):=by simp [h0]
  rw [if_neg hz] at hE hS;by_cases hl:5865<t.size
  ·rw [if_pos hl] at hE hS;constructor
   ·rw [hE];intro e;cases e
   ·rw [hE,hS];intro _ _;exact ⟨rfl,h0,.inl ⟨rfl,hl⟩⟩
   ·rw [hE];intro e;cases e
   ·intro e;rw [hE,hS];exact ⟨by decide,e,fun e=>by cases e⟩
  ·rw [if_neg hl] at hE hS;by_cases hf:2048<(recs 1 ps).length+np t.size∨65535≤ps.length
   ·rw [if_pos hf] at hE hS;constructor
    ·rw [hE];intro e;cases e
    ·rw [hE,hS];intro _ _;exact ⟨rfl,h0,.inr ⟨rfl,by omega,hf⟩⟩
    ·rw [hE];intro e;cases e
    ·intro e;rw [hE,hS];exact ⟨by decide,e,fun e=>by cases e⟩
   ·rw [if_neg hf] at hE hS;have hf':(recs 1 ps).length+np t.size≤2048:=by omega
    have hg:=D9 (c:=ps.length) (a:=(recs 1 ps).length) (t:=t) (by omega) hf' (by omega);have hlen:=JK ps.length (recs 1 ps).length t;have jo:(Bu ps.length (recs 1 ps).length t).take (np t.size)=Bu ps.length (recs 1 ps).length t:=List.take_of_length_le (by omega);by_cases wO:s.left=-1
    ·have e:=zI _ s wO hg;rw [e,if_pos rfl] at hE;rw [e] at hS;have hall:=h.Ag (t:=t) (by omega) hf' (np t.size) (Nat.le_refl _) (-1) (by decide) (by decide);rw [jo] at hall;constructor
     ·intro _;rw [hS];exact ⟨by omega,hall,by show (-1:Int)≠0;decide,by show (s.log++_).length=_;rw [List.length_append,hlen]⟩
     ·rw [hE];intro e;exact absurd rfl e
     ·rw [hE];intro e;cases e
     ·intro _;rw [hE,hS];exact ⟨by decide,rfl,fun _=>rfl⟩
    ·obtain ⟨n,hn⟩:∃n:Nat,s.left=(n:Int):=⟨s.left.toNat,by omega⟩;have e:=EM _ s n hn (by omega) hg;rw [hlen] at e;by_cases hlt:np t.size<n
     ·rw [if_pos hlt] at e;rw [e,if_pos rfl] at hE;rw [e] at hS;have hall:=h.Ag (t:=t) (by omega) hf' (np t.size) (Nat.le_refl _) ((n - np t.size:Nat):Int) (by omega) (by omega);rw [jo] at hall;constructor
      ·intro _;rw [hS];exact ⟨by omega,hall,by show ((n - np t.size:Nat):Int)≠0;omega,by show (s.log++_).length=_;rw [List.length_append,hlen]⟩
      ·rw [hE];intro e;exact absurd rfl e
      ·rw [hE];intro e;cases e
      ·intro e;omega
     ·rw [if_neg hlt] at e;rw [e,if_neg (show ¬(false=true) by decide)] at hE;rw [e] at hS
      have dY:(s.log++(Bu ps.length (recs 1 ps).length t).take n).length=s.log.length+n:=by
       rw [List.length_append,List.length_take,hlen,Nat.min_eq_left (by omega)]
      constructor
      ·rw [hE];intro e;cases e
      ·rw [hE];intro _ e;exact absurd rfl e
      ·intro _;rw [hS];refine ⟨n,dY,?_⟩;by_cases yb:n=np t.size
       ·exact .inl ⟨by omega,yb,h.Ag (by omega) hf' n (by omega) 0 (by decide) (by decide)⟩
       ·exact .inr ⟨fun e=>yb e.2,t,n,h.NR (by omega) hf' n (by omega) 0 (by decide) (by decide)⟩
      ·intro e;omega
theorem Hs.again {k:Nat} (h:Hs s ps t k k) (h0:s.left≠0):xY s=s∧yT s=true:=by
 have hw:=h.VG;rw [Nat.sub_self] at hw;have e:wl (yS s) s=(s,true):=by rw [hw];rfl
 unfold xY yT;rw [if_neg h0,if_neg h0,e];exact ⟨rfl,rfl⟩
theorem Hs.new:Hs nu [] ⟨#[]⟩ 0 0:=by
 refine ⟨V0,by simp,by decide,by decide,Nat.le_refl _,by simp [recs],?_⟩;show rp (kY []) []=_
 simp [rp,recs,tl]
theorem Hs.up {k j:Nat} (h:Hs s ps t k j) (n:Int) (h1: -1≤n) (h2:n≤9223372036854775807):Hs ⟨s.mX,s.log,n⟩ ps t k j:=⟨⟨h.ok.i1,h.ok.i2,h.ok.l1,h1,h2⟩,h.sz,h.XA,h.hk,h.hj,h.fit,h.bl⟩
end
end Go.Proofs.YtanaapfobpgibaaGreatDoor.Jr.Dk
