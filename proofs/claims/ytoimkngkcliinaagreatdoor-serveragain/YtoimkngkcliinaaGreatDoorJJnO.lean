/- JnO, JnMath, JnT, JnT2, JnA, joined. -/
import Derived.Test.YtoimkngkcliinaaGreatDoorChecked
import Derived.Deep.RegionHeld3
import Derived.Test.YtoimkngkcliinaaGreatDoorJFrA
import Derived.Test.YtoimkngkcliinaaGreatDoorJDkMath
import Derived.Test.YtoimkngkcliinaaGreatDoorJDkC
import Derived.Test.YtoimkngkcliinaaGreatDoorJFrY
import Derived.Test.YtoimkngkcliinaaGreatDoorJFrD
namespace Go.Proofs.YtoimkngkcliinaaGreatDoor
set_option linter.unusedVariables false
set_option maxRecDepth 4000
set_option linter.unusedSimpArgs false
section
variable {P:Program} {ops:Array Oper} {Q:Exit→Act→World→Prop} {md:Region.Mode} {C:Array Bool→World→Prop}
def Till (P:Program) (md:Region.Mode) (ops:Array Oper) (Q:Exit→Act→World→Prop) (C:Array Bool→World→Prop) (n:Nat) (l:Array Bool) (a:Act) (w:World):Prop:=
 match n with
 | 0=>wpAny P md ops Q 0 l a w
 | n+1=>(Region.ready md ops l=[]→Q .normal a w)∧∀i,i∈Region.ready md ops l→wpOp P ops Q i (fun b v=>C (l.setIfInBounds i true) v∧Till P md ops Q C n (l.setIfInBounds i true) b v) a w
theorem Till.any {n:Nat}:∀{l:Array Bool} {a:Act} {w:World},Till P md ops Q C n l a w→wpAny P md ops Q n l a w:=by
 induction n with
 | zero=>exact fun h=>h
 | succ n ih=>exact fun h=>⟨h.1,fun i hi=>wpOp_mono (fun _ _ k=>ih k.2) (h.2 i hi)⟩
/- Where the condition holds from here on, whatever comes up, the rest goes as ever. -/
theorem Till.of {n:Nat}:∀{l:Array Bool} {a:Act} {w:World} (I:Array Bool→Prop),I l→(∀l i,I l→i∈Region.ready md ops l→I (l.setIfInBounds i true)∧∀v,C (l.setIfInBounds i true) v)→wpAny P md ops Q n l a w→Till P md ops Q C n l a w:=by
 induction n with
 | zero=>exact fun _ _ _ h=>h
 | succ n ih=>exact fun I hI hs h=>⟨h.1,fun i hi=>wpOp_mono (fun _ v k=>⟨(hs _ i hI hi).2 v,ih I (hs _ i hI hi).1 hs k⟩) (h.2 i hi)⟩
/- What may come up does not wait for what may come up beside it. -/
theorem apart_ready {l:Array Bool} {i j:Nat} {o:Oper} (hi:i∈Region.ready md ops l) (hj:j∈Region.ready md ops l) (ho:ops[j]? =some o):∀e∈o.after,Region.binds md e=true→e.on≠i:=by
 rintro e he hb rfl;have hno:=(mem_ready.1 hi).1;obtain ⟨-,o',ho',hall⟩:=mem_ready.1 hj;cases Option.some.inj (ho.symm.trans ho')
 have hyes:=hall e he hb;by_cases hlt:e.on<l.size <;> simp_all
/- An operation is taken ahead of the others: I is what is known of those that have come up as long as it has not. -/
theorem Till.ahead {I:Array Bool→Prop} {S:World→Prop} {i:Nat} {oi:Oper} {x:Value} (hi:ops[i]? =some oi) (hs:Region.noSelect ops=true)
  (hQ:∀c a w,Q (.panic c) (a.put oi.dst x) w→Q (.panic c) a w)
  (step:∀l j v,I l→j≠i→i∈Region.ready md ops l→j∈Region.ready md ops l→C ((l.setIfInBounds i true).setIfInBounds j true) v→I (l.setIfInBounds j true)∧C (l.setIfInBounds j true) v)
  (safe:∀l v,I l→C l v→S v∧C (l.setIfInBounds i true) v) (n:Nat):∀(l:Array Bool) (a:Act) (w:World),
   (∀k ok,ops[k]? =some ok→k≠i→l.getD k true=false→(∀e∈ok.after,Region.binds md e=true→e.on≠i)→oi.apart ops ok=true)→
   i∈Region.ready md ops l→I l→C l w→YieldsIf P ops S oi x a→Till P md ops Q C n (l.setIfInBounds i true) (a.put oi.dst x) w→Till P md ops Q C (n+1) l a w:=by
 have sel:=fun j o cs b=>Region.noSelect_spec hs j o cs b
 induction n with
 | zero=>
  intro l a w _ hr hI hC hy H;refine ⟨fun e=>absurd hr (by simp [e]),fun j hj=>?_⟩;obtain rfl | hne:=Decidable.em (j=i)
  ·exact hy.wpOp hi (safe l w hI hC).1 ⟨(safe l w hI hC).2,H⟩
  ·exact absurd (ready_mono hj hne) (by simp [H.1])
 | succ n ih=>
  intro l a w free hr hI hC hy H;refine ⟨fun e=>absurd hr (by simp [e]),fun j hj=>?_⟩;obtain rfl | hne:=Decidable.em (j=i)
  ·exact hy.wpOp hi (safe l w hI hC).1 ⟨(safe l w hI hC).2,H⟩
  ·have hun:=(mem_ready.1 hj).1;obtain ⟨oj,hoj⟩:∃oj,ops[j]? =some oj:=(mem_ready.1 hj).2.imp fun _ h=>h.1
   refine wpOp_mono (fun b v ⟨hyb,hCb,hTb⟩=>?_) (wpOp_putIf hoj (free j oj hoj hne hun (apart_ready hr hj hoj)) (fun cs b=>sel i oi cs b hi) (fun cs b=>sel j oj cs b hoj) hQ hy (H.2 j (ready_mono hj hne)));obtain ⟨hI',hC'⟩:=step l j v hI hne hr hj hCb;refine ⟨hC',ih _ b v (fun k ok hk hki hkl=>free k ok hk hki ?_) (ready_mono hr (Ne.symm hne)) hI' hC' hyb (by rw [Array.setIfInBounds_comm _ _ hne];exact hTb)⟩;obtain rfl | hjk:=Decidable.em (j=k)
   ·exact hun
   ·rwa [getD_set_ne true hjk] at hkl
/- The condition S, as long as some of L have not come up. -/
def Lack (L:List Nat) (S:World→Prop) (l:Array Bool) (w:World):Prop:=(∃c∈L,l.getD c true=false)→S w
section
variable {L:List Nat} {S:World→Prop} {n i:Nat} {oi:Oper} {x:Value} {l:Array Bool} {a:Act} {w:World}
/- A load (or whatever yields its value wherever S holds), as long as the call c, one of L, waits for it. -/
theorem Till.take (c:Nat) (hi:ops[i]? =some oi) (hc:c∈L) (hwait:((ops[c]?).any fun oc=>oc.after.any fun e=>Region.binds md e&&e.on==i)=true) (hci:c≠i) (hcl:l.getD c true=false)
  (hs:Region.noSelect ops=true) (hf:Region.free md ops l i=true) (hr:(Region.ready md ops l).contains i=true)
  (hQ:∀c a w,Q (.panic c) (a.put oi.dst x) w→Q (.panic c) a w) (hy:YieldsIf P ops S oi x a) (hS:S w)
  (h:Till P md ops Q (Lack L S) n (l.setIfInBounds i true) (a.put oi.dst x) w):Till P md ops Q (Lack L S) (n+1) l a w:=by
 have notc:∀l j,i∈Region.ready md ops l→j∈Region.ready md ops l→j≠c:=by
  rintro l j h1 h2 rfl
  cases ho:ops[j]? with
  | none=>simp [ho] at hwait
  | some oc=>
   simp only [ho,Option.any_some,Array.any_eq_true,Bool.and_eq_true,beq_iff_eq] at hwait;obtain ⟨k,hk,hb,hon⟩:=hwait;exact apart_ready h1 h2 ho _ (Array.getElem_mem hk) hb hon
 refine Till.ahead (I:=fun l=>l.getD c true=false) (S:=S) hi hs hQ (fun l j v hI hne h1 h2 hC=>?_) (fun l v hI hC=>⟨hC ⟨c,hc,hI⟩,fun _=>hC ⟨c,hc,hI⟩⟩) n l a w (Region.free_spec hi hf) (by simpa using hr) hcl (fun _=>hS) hy h;have hj:=notc l j h1 h2;exact ⟨by rw [getD_set_ne true hj];exact hI,fun _=>hC ⟨c,hc,by rw [getD_set_ne true hj,getD_set_ne true (Ne.symm hci)];exact hI⟩⟩
/- What yields its value in whatever world, and is none of L. -/
theorem Till.takeFree (hi:ops[i]? =some oi) (hiL:i∉L)
  (hs:Region.noSelect ops=true) (hf:Region.free md ops l i=true) (hr:(Region.ready md ops l).contains i=true)
  (hQ:∀c a w,Q (.panic c) (a.put oi.dst x) w→Q (.panic c) a w) (hy:YieldsIf P ops (fun _=>True) oi x a) (hS:S w)
  (h:Till P md ops Q (Lack L S) n (l.setIfInBounds i true) (a.put oi.dst x) w):Till P md ops Q (Lack L S) (n+1) l a w:=by
 have ne:∀c∈L,i≠c:=fun c hc e=>hiL (e ▸ hc)
 refine Till.ahead (I:=fun _=>True) (S:=fun _=>True) hi hs hQ (fun l j v _ hne _ _ hC=>⟨trivial,fun ⟨c,hc,he⟩=>hC ⟨c,hc,?_⟩⟩) (fun l v _ hC=>⟨trivial,fun ⟨c,hc,he⟩=>hC ⟨c,hc,?_⟩⟩) n l a w (Region.free_spec hi hf) (by simpa using hr) trivial (fun _=>hS) hy h
 ·rw [←Array.setIfInBounds_comm _ _ hne,getD_set_ne true (ne c hc)];exact he
 ·rwa [getD_set_ne true (ne c hc)] at he
/- One operation alone may come up. -/
theorem Till.one {o:Oper} (ho:ops[i]? =some o) (hr:Region.ready md ops l=[i])
  (h:∀K:Act→World→Prop,Shut (∀b v,((∃c∈L,(l.setIfInBounds i true).getD c true=false)→S v)→Till P md ops Q (Lack L S) n (l.setIfInBounds i true) b v→K b v)→if Region.wanted o (yielded ops a.tmps)=true then Oper.wp P o a w K Q else K (a.put o.dst undef) w):Till P md ops Q (Lack L S) (n+1) l a w:=by
 refine ⟨fun e=>absurd (hr.symm.trans e) (by simp),fun j hj=>?_⟩;rw [hr,List.mem_singleton] at hj;subst hj;exact wpOp_step ho fun K hK=>h K fun b v h1 h2=>hK b v ⟨h1,h2⟩
/- All of L have come up. -/
theorem Till.rest (hl:(L.all fun c=>l.getD c true)=true) (h:wpAny P md ops Q n l a w):Till P md ops Q (Lack L S) n l a w:=by
 refine Till.of (fun l=>∀c∈L,l.getD c true=true) (List.all_eq_true.1 hl) (fun l i hI hi=>?_) h
 have hI':∀c∈L,(l.setIfInBounds i true).getD c true=true:=fun c hc=>by
  obtain rfl | hne:=Decidable.em (i=c)
  ·exact absurd ((mem_ready.1 hi).1.symm.trans (hI i hc)) (by decide)
  ·rw [getD_set_ne true hne];exact hI c hc
 exact ⟨hI',fun v ⟨c,hc,he⟩=>absurd ((hI' c hc).symm.trans he) (by decide)⟩
theorem Till.region {id:Nat} (L:List Nat) (S:World→Prop) (hm:P.follows .mixedOrders=true)
  (h:Till P .any ops Q (Lack L S) ops.size (Array.replicate ops.size false) a w.drew):(Code.region id ops true).wp P Q a w:=
 wp_region_any hm h.any
end
end
end Go.Proofs.YtoimkngkcliinaaGreatDoor
namespace Go.Proofs.YtoimkngkcliinaaGreatDoor.Jr.Dk
open Go.RowKit Go.Maps
set_option linter.unusedVariables false
set_option maxRecDepth 4000
set_option linter.unusedSimpArgs false
def wl:List (Int×ByteArray)→St→St×Bool
 | [],s=>(s,true)
 | p::L,s=>if (nx s p.1 p.2).left=0 then (nx s p.1 p.2,false) else wl L (nx s p.1 p.2)
theorem wl_off {p:Int×ByteArray} {L:List (Int×ByteArray)} {s:St} (h:(nx s p.1 p.2).left=0):wl (p::L) s=(nx s p.1 p.2,false):=by rw [wl,if_pos h]
theorem wl_on {p:Int×ByteArray} {L:List (Int×ByteArray)} {s:St} (h:(nx s p.1 p.2).left≠0):wl (p::L) s=wl L (nx s p.1 p.2):=by rw [wl,if_neg h]
def wps:List ByteArray→Nat→List (Int×ByteArray)
 | [],_=>[]
 | t::l,a=>if t.size=0 then wps l (a+1) else ((a:Int),⟨#[]⟩)::wps l (a+1)
def plc:List ByteArray→Nat→List (Int×ByteArray)
 | [],_=>[]
 | t::l,a=>((a:Int),t)::plc l (a+1)
theorem plc_length:∀(l:List ByteArray) (a:Nat),(plc l a).length=l.length
 | [],a=>rfl
 | t::l,a=>by rw [plc,List.length_cons,plc_length l (a+1),List.length_cons]
theorem plc_good:∀(l:List ByteArray) (a:Nat),a+l.length≤2048→(∀t∈l,t.size≤32)→∀p∈plc l a,Gp p
 | [],a,_,_,p,hp=>by simp [plc] at hp
 | t::l,a,h1,h2,p,hp=>by
  rw [List.length_cons] at h1;rw [plc] at hp;rcases List.mem_cons.1 hp with rfl | hp
  ·exact ⟨by show (0:Int)≤(a:Int);omega,by show (a:Int)<2048;omega,h2 t (by simp)⟩
  ·exact plc_good l (a+1) (by omega) (fun x hx=>h2 x (by simp [hx])) p hp
theorem nx_log (s:St) (x:Int) (t:ByteArray):(nx s x t).log.length≤s.log.length+1:=by
 unfold nx;split <;> simp
theorem nx_put {s:St} {x:Int} {t:ByteArray} (h0:s.left≠0) (hg:Gp (x,t)):nx s x t=⟨s.img,s.log++[(x,t)],nl s.left⟩:=by
 unfold nx;rw [if_pos (we_good h0 hg)]
theorem wl_free:∀(L:List (Int×ByteArray)) (s:St),s.left=-1→(∀p∈L,Gp p)→wl L s=(⟨s.img,s.log++L,-1⟩,true)
 | [],s,h,_=>by rw [wl,List.append_nil,←h]
 | p::L,s,h,hg=>by
  have e:=nx_put (s:=s) (x:=p.1) (t:=p.2) (by rw [h];decide) (hg p (by simp));have e1:nl s.left=-1:=by rw [h];rfl
  rw [e1] at e;rw [wl_on (by rw [e];show (-1:Int)≠0;decide),e,wl_free L _ rfl (fun q hq=>hg q (by simp [hq]))];simp
theorem wl_few:∀(L:List (Int×ByteArray)) (s:St) (n:Nat),s.left=(n:Int)→1≤n→(∀p∈L,Gp p)→wl L s=if L.length<n then (⟨s.img,s.log++L,((n - L.length:Nat):Int)⟩,true) else (⟨s.img,s.log++L.take n,0⟩,false)
 | [],s,n,h,h1,_=>by rw [wl,if_pos (by simp;omega),List.append_nil,List.length_nil,Nat.sub_zero,←h]
 | p::L,s,n,h,h1,hg=>by
  have e:=nx_put (s:=s) (x:=p.1) (t:=p.2) (by rw [h];omega) (hg p (by simp));have e1:nl s.left=((n - 1:Nat):Int):=by rw [h];unfold nl;rw [if_neg (by omega)];omega
  rw [e1] at e;by_cases h2:n=1
  ·subst h2;rw [wl_off (by rw [e];rfl),e,if_neg (by simp)];simp
  ·have ih:=wl_few L ⟨s.img,s.log++[p],((n - 1:Nat):Int)⟩ (n - 1) rfl (by omega) (fun q hq=>hg q (by simp [hq]));rw [wl_on (by rw [e];show ((n - 1:Nat):Int)≠0;omega),e,ih];obtain ⟨m,rfl⟩:∃m,n=m+1:=⟨n - 1,by omega⟩;simp only [Nat.add_sub_cancel,List.length_cons,List.take_succ_cons,List.append_assoc,List.singleton_append];by_cases h3:L.length<m
   ·rw [if_pos h3,if_pos (by omega),show m+1 - (L.length+1)=m - L.length by omega]
   ·rw [if_neg h3,if_neg (by omega)]
/- Opening. -/
def scE (s:St):Nat:=(sc 65535 (im s.bl) 1).2
def scP (s:St):List ByteArray:=(sc 65535 (im s.bl) 1).1
def opw (s:St):List (Int×ByteArray):=wps ((im s.bl).drop (scE s)) (scE s)
def opS (s:St):St:=if s.left=0 then s else (wl (opw s) s).1
def opB (s:St):Bool:=if s.left=0 then false else (wl (opw s) s).2
theorem sc_le (s:St):(scP s).length≤scE s∧scE s≤2048:=by
 obtain ⟨h1,h2,h3⟩:=sc_len 65535 (im s.bl) 1;have:=top_le s.bl;rw [im_length] at h2;exact ⟨h1,by unfold scE;omega⟩
/- Appending. -/
def apW (c a:Nat) (t:ByteArray):List (Int×ByteArray):=plc (blks ((c+1:Nat):Int) t) a
def apE (s:St) (c a:Nat) (d:Bool) (t:ByteArray):Int:=if d=true∨s.left=0 then 11 else if 5865<t.size then 9 else if 2048<a+np t.size∨65535≤c then 10 else if (wl (apW c a t) s).2=true then 0 else 11
def apS (s:St) (c a:Nat) (d:Bool) (t:ByteArray):St:=if d=true∨s.left=0 then s else if 5865<t.size then s else if 2048<a+np t.size∨65535≤c then s else (wl (apW c a t) s).1
def apC (s:St) (c a:Nat) (d:Bool) (t:ByteArray):Nat:=if apE s c a d t=0 then c+1 else c
def apA (s:St) (c a:Nat) (d:Bool) (t:ByteArray):Nat:=if apE s c a d t=0 then a+np t.size else a
def apD (s:St) (c a:Nat) (d:Bool) (t:ByteArray):Bool:=if apE s c a d t=11 then true else d
theorem apW_len (c a:Nat) (t:ByteArray):(apW c a t).length=np t.size:=by unfold apW;rw [plc_length,blks_length]
theorem num_ok {c:Nat} (h:c<65535):gs ((c+1:Nat):Int)=true:=by unfold gs;rw [Bool.and_eq_true];exact ⟨decide_eq_true (by omega),decide_eq_true (by omega)⟩
theorem apW_good {c a:Nat} {t:ByteArray} (h1:t.size≤5865) (h2:a+np t.size≤2048) (h3:c<65535):∀p∈apW c a t,Gp p:=
 plc_good _ _ (by rw [blks_length];exact h2) (fun x hx=>by rw [blks_size (num_ok h3) h1 x hx];decide)
theorem fnI_at (l:List ByteArray) (i:Nat):fnI l (i:Int)=l.getD i ⟨#[]⟩:=by unfold fnI;rw [if_pos (by omega)];rfl
theorem fnI_low (l:List ByteArray) (x:Int) (h:x<0):fnI l x=⟨#[]⟩:=by unfold fnI;rw [if_neg (by omega)]
theorem fnI_ext {l m:List ByteArray} (h:∀i,l.getD i ⟨#[]⟩=m.getD i ⟨#[]⟩):fnI l=fnI m:=by
 funext x
 by_cases hx:x<0
 ·rw [fnI_low _ _ hx,fnI_low _ _ hx]
 ·obtain ⟨i,rfl⟩:∃i:Nat,x=(i:Int):=⟨x.toNat,by omega⟩;rw [fnI_at,fnI_at,h i]
theorem getD_app_left (l m:List ByteArray) (i:Nat) (h:i<l.length):(l++m).getD i ⟨#[]⟩=l.getD i ⟨#[]⟩:=by
 simp [List.getD_eq_getElem?_getD,List.getElem?_append,h]
theorem getD_app_right (l m:List ByteArray) (i:Nat):(l++m).getD (l.length+i) ⟨#[]⟩=m.getD i ⟨#[]⟩:=by
 rw [List.getD_eq_getElem?_getD,List.getElem?_append_right (by omega),Nat.add_sub_cancel_left,List.getD_eq_getElem?_getD]
theorem fnI_trail (l:List ByteArray) (n:Nat):fnI (l++List.replicate n ⟨#[]⟩)=fnI l:=by
 apply fnI_ext
 intro i;by_cases h:i<l.length
 ·exact getD_app_left _ _ i h
 ·obtain ⟨k,rfl⟩:∃k,i=l.length+k:=⟨i - l.length,by omega⟩;rw [getD_app_right,getD_no l _ (by omega)];by_cases hk:k<n
  ·simp [List.getD_eq_getElem?_getD,hk]
  ·rw [getD_no _ _ (by simp;omega)]
theorem set_over (P:List ByteArray) (y z:ByteArray) (Y:List ByteArray):setB (fnI (P++y::Y)) (P.length:Int) z=fnI (P++z::Y):=by
 funext x
 by_cases hx:x<0
 ·rw [fnI_low _ _ hx,setB_other _ _ (by omega),fnI_low _ _ hx]
 ·obtain ⟨i,rfl⟩:∃i:Nat,x=(i:Int):=⟨x.toNat,by omega⟩;by_cases e:i=P.length
  ·subst e;rw [setB_same,fnI_at];have:=getD_app_right P (z::Y) 0;rw [Nat.add_zero] at this;rw [this];rfl
  ·rw [setB_other _ _ (by omega),fnI_at,fnI_at];by_cases h:i<P.length
   ·rw [getD_app_left _ _ i h,getD_app_left _ _ i h]
   ·obtain ⟨k,rfl⟩:∃k,i=P.length+(k+1):=⟨i - P.length - 1,by omega⟩;rw [getD_app_right,getD_app_right];rfl
theorem over:∀(Z P Y:List ByteArray),rp (fnI (P++Y)) (plc Z P.length)=fnI (P++Z++Y.drop Z.length)
 | [],P,Y=>by simp [plc,rp]
 | z::Z,P,Y=>by
  have hstep:setB (fnI (P++Y)) (P.length:Int) z=fnI (P++[z]++Y.drop 1):=by
   cases Y with
   | nil=>
    have:=set_over P ⟨#[]⟩ z [];rw [show P++[(⟨#[]⟩:ByteArray)]=P++List.replicate 1 ⟨#[]⟩ from rfl,fnI_trail] at this
    simpa using this
   | cons y Y=>
    rw [set_over];simp
  show rp (setB (fnI (P++Y)) (P.length:Int) z) (plc Z (P.length+1))=_
  rw [hstep];have ih:=over Z (P++[z]) (Y.drop 1);rw [List.length_append,List.length_singleton] at ih;rw [ih];simp [Nat.add_comm]
theorem rp_append (B:Bl) (L M:List (Int×ByteArray)):rp B (L++M)=rp (rp B L) M:=by simp [rp]
theorem plc_take:∀(l:List ByteArray) (a k:Nat),(plc l a).take k=plc (l.take k) a
 | [],a,k=>by simp [plc]
 | t::l,a,0=>by simp [plc]
 | t::l,a,k+1=>by rw [plc,List.take_succ_cons,plc_take l (a+1) k,List.take_succ_cons,plc]
theorem wps_empty:∀(n:Nat) (X:List ByteArray) (a:Nat),wps (List.replicate n ⟨#[]⟩++X) a=wps X (a+n)
 | 0,X,a=>by simp
 | n+1,X,a=>by
  rw [List.replicate_succ,List.cons_append,wps,if_pos (show (⟨#[]⟩:ByteArray).size=0 from rfl),wps_empty n X (a+1),show a+1+n=a+(n+1) by omega]
theorem wps_all:∀(X:List ByteArray) (a:Nat),(∀t∈X,t.size≠0)→wps X a=plc (List.replicate X.length ⟨#[]⟩) a
 | [],a,_=>rfl
 | t::X,a,h=>by
  rw [wps,if_neg (h t (by simp)),wps_all X (a+1) (fun x hx=>h x (by simp [hx])),List.length_cons,List.replicate_succ,plc]
theorem im_of (l:List ByteArray) (h1:l.length≤2048) (h2:l=[]∨(l.getD (l.length - 1) ⟨#[]⟩).size≠0):im (fnI l)=l:=by
 have ht:top (fnI l)=l.length:=by
  refine top_eq h1 ?_ ?_
  ·rcases h2 with rfl | h2
   ·exact .inl rfl
   ·by_cases h0:l.length=0
    ·exact .inl h0
    ·right
     rw [show ((l.length:Nat):Int) - 1=((l.length - 1:Nat):Int) by omega,fnI_at];exact h2
  ·intro i hi _;rw [fnI_at,getD_no _ _ hi];rfl
 unfold im;rw [ht];apply List.ext_getElem
 ·simp
 ·intro i h3 h4;have e1:(tx (fnI l) l.length)[i]=fnI l (i:Int):=by simp [tx]
  rw [e1,fnI_at,getD_yes _ _ h4]
/- The blocks behind the records: the first j of k are wiped. -/
def tl (q:Nat) (t:ByteArray) (k j:Nat):List ByteArray:=List.replicate j ⟨#[]⟩++((blks (q:Int) t).take k).drop j
structure Hs (s:St) (ps:List ByteArray) (t:ByteArray) (k j:Nat):Prop where
 ok:s.Ok
 sz:∀p∈ps,p.size≤5865
 tsz:t.size≤5865
 hk:k<np t.size
 hj:j≤k
 fit:(recs 1 ps).length+k≤2048
 bl:s.bl=fnI (recs 1 ps++tl (ps.length+1) t k j)
theorem tl_length {q:Nat} {t:ByteArray} {k j:Nat} (hk:k<np t.size) (hj:j≤k):(tl q t k j).length=k:=by
 unfold tl;rw [List.length_append,List.length_replicate,List.length_drop,List.length_take,blks_length];omega
section
variable {s:St} {ps:List ByteArray} {t:ByteArray} {k j:Nat}
theorem Hs.cnt (h:Hs s ps t k j):ps.length≤(recs 1 ps).length∧ps.length≤2048:=by
 have:=recs_len ps 1 h.sz;have:=h.fit;omega
theorem Hs.num (h:Hs s ps t k j):gs ((ps.length+1:Nat):Int)=true:=num_ok (by have:=h.cnt;omega)
theorem Hs.rsz (h:Hs s ps t k j):∀x∈recs 1 ps,x.size=32:=recs_size ps 1 (by omega) (by have:=h.cnt;omega) h.sz
theorem last_size {l:List ByteArray} (h:∀x∈l,x.size=32):l=[]∨(l.getD (l.length - 1) ⟨#[]⟩).size≠0:=by
 by_cases h0:l=[]
 ·exact .inl h0
 ·right
  have hp:0<l.length:=List.length_pos_iff.2 h0;rw [getD_yes _ _ (by omega),h _ (List.getElem_mem _)];decide
theorem tl_full (q:Nat) (t:ByteArray) (k:Nat) (hk:k<np t.size):tl q t k k=List.replicate k ⟨#[]⟩:=by
 unfold tl;rw [List.drop_eq_nil_of_le (by rw [List.length_take];omega),List.append_nil]
theorem Hs.clean (h:Hs s ps t k k):s.bl=fnI (recs 1 ps):=by rw [h.bl,tl_full _ _ _ h.hk,fnI_trail]
theorem Hs.image (h:Hs s ps t k j):im s.bl=recs 1 ps++(if j<k then tl (ps.length+1) t k j else []):=by
 by_cases hjk:j<k
 ·rw [if_pos hjk,h.bl];refine im_of _ ?_ ?_
  ·rw [List.length_append,tl_length h.hk h.hj];exact h.fit
  ·right
   have hl:(recs 1 ps++tl (ps.length+1) t k j).length - 1=(recs 1 ps).length+(k - 1):=by
    rw [List.length_append,tl_length h.hk h.hj];omega
   rw [hl,getD_app_right]
   have e1:(tl (ps.length+1) t k j).getD (k - 1) ⟨#[]⟩=(blks ((ps.length+1:Nat):Int) t).getD (k - 1) ⟨#[]⟩:=by
    unfold tl;have:=getD_app_right (List.replicate j ⟨#[]⟩) (((blks ((ps.length+1:Nat):Int) t).take k).drop j) (k - 1 - j);rw [List.length_replicate,show j+(k - 1 - j)=k - 1 by omega] at this;rw [this];simp only [List.getD_eq_getElem?_getD,List.getElem?_drop,List.getElem?_take];rw [if_pos (by omega),show j+(k - 1 - j)=k - 1 by omega]
   have hk1:k - 1<(blks ((ps.length+1:Nat):Int) t).length:=by rw [blks_length];have:=h.hk;omega
   rw [e1,getD_yes _ _ hk1,blks_size h.num h.tsz _ (List.getElem_mem _)];decide
 ·obtain rfl:j=k:=by have:=h.hj;omega
  rw [if_neg hjk,h.clean,List.append_nil];exact im_of _ (by have:=h.fit;omega) (last_size h.rsz)
theorem Hs.noh (h:Hs s ps t k j):Noh (if j<k then tl (ps.length+1) t k j else []) (1+ps.length):=by
 by_cases hjk:j<k
 ·rw [if_pos hjk]
  cases j with
  | zero=>
   have e:tl (ps.length+1) t k 0=(blks ((ps.length+1:Nat):Int) t).take k:=by simp [tl]
   rw [e,Nat.add_comm 1];exact noh_part t (ps.length+1) k h.num h.tsz h.hk
  | succ j=>
   unfold tl;rw [List.replicate_succ,List.cons_append];exact noh_empty _ _
 ·rw [if_neg hjk];exact noh_nil _
theorem Hs.scan (h:Hs s ps t k j):scP s=ps∧scE s=(recs 1 ps).length:=by
 have h1:=h.cnt;unfold scP scE;rw [h.image,sc_recs ps 65535 1 _ (by omega) (by omega) (by omega) h.sz h.noh];exact ⟨rfl,rfl⟩
theorem Hs.wipes (h:Hs s ps t k j):opw s=plc (List.replicate (k - j) ⟨#[]⟩) ((recs 1 ps).length+j):=by
 unfold opw;rw [h.scan.2,h.image,List.drop_left' rfl];by_cases hjk:j<k
 ·rw [if_pos hjk];unfold tl;rw [wps_empty,wps_all]
  ·rw [List.length_drop,List.length_take,blks_length,Nat.min_eq_left (by have:=h.hk;omega)]
  ·intro x hx;rw [blks_size h.num h.tsz x (List.mem_of_mem_take (List.mem_of_mem_drop hx))];decide
 ·rw [if_neg hjk,show k - j=0 by omega];rfl
end
theorem recs_add (ps:List ByteArray) (t:ByteArray):recs 1 (ps++[t])=recs 1 ps++blks ((ps.length+1:Nat):Int) t:=by
 rw [recs_snoc,Nat.add_comm 1]
section
variable {s:St} {ps:List ByteArray} {t:ByteArray}
theorem Hs.clean0 (h:Hs s ps ⟨#[]⟩ 0 0):s.bl=fnI (recs 1 ps):=h.clean
theorem Hs.put (h:Hs s ps ⟨#[]⟩ 0 0) (m:Nat):rp (fnI s.img) (s.log++(apW ps.length (recs 1 ps).length t).take m)=fnI (recs 1 ps++(blks ((ps.length+1:Nat):Int) t).take m):=by
 have e:=over ((blks ((ps.length+1:Nat):Int) t).take m) (recs 1 ps) [];rw [List.append_nil,List.drop_nil,List.append_nil] at e;rw [rp_append,show rp (fnI s.img) s.log=s.bl from rfl,h.clean0];unfold apW;rw [plc_take];exact e
theorem Hs.put_ok (h:Hs s ps ⟨#[]⟩ 0 0) (ht:t.size≤5865) (hf:(recs 1 ps).length+np t.size≤2048) (m:Nat) (left:Int) (h1: -1≤left) (h2:left≤9223372036854775807):St.Ok ⟨s.img,s.log++(apW ps.length (recs 1 ps).length t).take m,left⟩:=by
 refine ⟨h.ok.i1,h.ok.i2,?_,h1,h2⟩;intro p hp;rcases List.mem_append.1 hp with hp | hp
 ·exact h.ok.l1 p hp
 ·exact apW_good ht hf (by have:=h.cnt;omega) p (List.mem_of_mem_take hp)
theorem Hs.put_all (h:Hs s ps ⟨#[]⟩ 0 0) (ht:t.size≤5865) (hf:(recs 1 ps).length+np t.size≤2048) (m:Nat) (hm:np t.size≤m) (left:Int) (h1: -1≤left) (h2:left≤9223372036854775807):Hs ⟨s.img,s.log++(apW ps.length (recs 1 ps).length t).take m,left⟩ (ps++[t]) ⟨#[]⟩ 0 0:=by
 refine ⟨h.put_ok ht hf m left h1 h2,?_,by decide,by decide,Nat.le_refl _,?_,?_⟩
 ·intro p hp;rcases List.mem_append.1 hp with hp | hp
  ·exact h.sz p hp
  ·simp at hp;subst hp;exact ht
 ·rw [recs_add,List.length_append,blks_length];omega
 ·show rp (fnI s.img) (s.log++_)=_
  rw [h.put m,recs_add,List.take_of_length_le (by rw [blks_length];exact hm)];simp [tl]
theorem Hs.put_part (h:Hs s ps ⟨#[]⟩ 0 0) (ht:t.size≤5865) (hf:(recs 1 ps).length+np t.size≤2048) (m:Nat) (hm:m<np t.size) (left:Int) (h1: -1≤left) (h2:left≤9223372036854775807):Hs ⟨s.img,s.log++(apW ps.length (recs 1 ps).length t).take m,left⟩ ps t m 0:=by
 refine ⟨h.put_ok ht hf m left h1 h2,h.sz,ht,hm,Nat.zero_le _,by omega,?_⟩;show rp (fnI s.img) (s.log++_)=_
 rw [h.put m];simp [tl]
structure Appd (s:St) (ps:List ByteArray) (t:ByteArray):Prop where
 ok:apE s ps.length (recs 1 ps).length false t=0→t.size≤5865∧Hs (apS s ps.length (recs 1 ps).length false t) (ps++[t]) ⟨#[]⟩ 0 0∧(apS s ps.length (recs 1 ps).length false t).left≠0∧(apS s ps.length (recs 1 ps).length false t).log.length=s.log.length+np t.size
 not:apE s ps.length (recs 1 ps).length false t≠0→apE s ps.length (recs 1 ps).length false t≠11→apS s ps.length (recs 1 ps).length false t=s∧s.left≠0∧((apE s ps.length (recs 1 ps).length false t=9∧5865<t.size)∨(apE s ps.length (recs 1 ps).length false t=10∧t.size≤5865∧(2048<(recs 1 ps).length+np t.size∨65535≤ps.length)))
 down:apE s ps.length (recs 1 ps).length false t=11→∃m,(apS s ps.length (recs 1 ps).length false t).log.length=s.log.length+m∧((t.size≤5865∧m=np t.size∧Hs (apS s ps.length (recs 1 ps).length false t) (ps++[t]) ⟨#[]⟩ 0 0)∨(¬(t.size≤5865∧m=np t.size)∧∃t' k,Hs (apS s ps.length (recs 1 ps).length false t) ps t' k 0))
 free:s.left=-1→apE s ps.length (recs 1 ps).length false t≠11∧(apS s ps.length (recs 1 ps).length false t).left=-1∧(apE s ps.length (recs 1 ps).length false t=0→apS s ps.length (recs 1 ps).length false t=⟨s.img,s.log++plc (blks ((ps.length+1:Nat):Int) t) (recs 1 ps).length,-1⟩)
theorem Hs.appended (h:Hs s ps ⟨#[]⟩ 0 0) (t:ByteArray):Appd s ps t:=by
 have hcnt:=h.cnt;have p1:=h.ok.p1;have p2:=h.ok.p2;have hE:apE s ps.length (recs 1 ps).length false t=if false=true∨s.left=0 then 11 else if 5865<t.size then 9 else if 2048<(recs 1 ps).length+np t.size∨65535≤ps.length then 10 else if (wl (apW ps.length (recs 1 ps).length t) s).2=true then 0 else 11:=rfl
 have hS:apS s ps.length (recs 1 ps).length false t=if false=true∨s.left=0 then s else if 5865<t.size then s else if 2048<(recs 1 ps).length+np t.size∨65535≤ps.length then s else (wl (apW ps.length (recs 1 ps).length t) s).1:=rfl
 by_cases h0:s.left=0
 ·rw [if_pos (.inr h0)] at hE hS;rw [show (Appd s ps t)=Appd s ps t from rfl];constructor
  ·rw [hE];intro e;cases e
  ·rw [hE];intro _ e;exact absurd rfl e
  ·intro _;refine ⟨0,by rw [hS];rfl,.inr ⟨fun e=>?_,⟨#[]⟩,0,by rw [hS];exact h⟩⟩;have:=(np_spec t.size e.1).2.1;omega
  ·intro e;omega
 ·have hz:¬(false=true∨s.left=0):=by simp [h0]
  rw [if_neg hz] at hE hS;by_cases hl:5865<t.size
  ·rw [if_pos hl] at hE hS;constructor
   ·rw [hE];intro e;cases e
   ·rw [hE,hS];intro _ _;exact ⟨rfl,h0,.inl ⟨rfl,hl⟩⟩
   ·rw [hE];intro e;cases e
   ·intro e;rw [hE,hS];exact ⟨by decide,e,fun e=>by cases e⟩
  ·rw [if_neg hl] at hE hS;by_cases hf:2048<(recs 1 ps).length+np t.size∨65535≤ps.length
   ·rw [if_pos hf] at hE hS;constructor
    ·rw [hE];intro e;cases e
    ·rw [hE,hS];intro _ _;exact ⟨rfl,h0,.inr ⟨rfl,by omega,hf⟩⟩
    ·rw [hE];intro e;cases e
    ·intro e;rw [hE,hS];exact ⟨by decide,e,fun e=>by cases e⟩
   ·rw [if_neg hf] at hE hS;have hf':(recs 1 ps).length+np t.size≤2048:=by omega
    have hg:=apW_good (c:=ps.length) (a:=(recs 1 ps).length) (t:=t) (by omega) hf' (by omega);have hlen:=apW_len ps.length (recs 1 ps).length t;have htk:(apW ps.length (recs 1 ps).length t).take (np t.size)=apW ps.length (recs 1 ps).length t:=List.take_of_length_le (by omega);by_cases hfr:s.left=-1
    ·have e:=wl_free _ s hfr hg;rw [e,if_pos rfl] at hE;rw [e] at hS;have hall:=h.put_all (t:=t) (by omega) hf' (np t.size) (Nat.le_refl _) (-1) (by decide) (by decide);rw [htk] at hall;constructor
     ·intro _;rw [hS];exact ⟨by omega,hall,by show (-1:Int)≠0;decide,by show (s.log++_).length=_;rw [List.length_append,hlen]⟩
     ·rw [hE];intro e;exact absurd rfl e
     ·rw [hE];intro e;cases e
     ·intro _;rw [hE,hS];exact ⟨by decide,rfl,fun _=>rfl⟩
    ·obtain ⟨n,hn⟩:∃n:Nat,s.left=(n:Int):=⟨s.left.toNat,by omega⟩;have e:=wl_few _ s n hn (by omega) hg;rw [hlen] at e;by_cases hlt:np t.size<n
     ·rw [if_pos hlt] at e;rw [e,if_pos rfl] at hE;rw [e] at hS;have hall:=h.put_all (t:=t) (by omega) hf' (np t.size) (Nat.le_refl _) ((n - np t.size:Nat):Int) (by omega) (by omega);rw [htk] at hall;constructor
      ·intro _;rw [hS];exact ⟨by omega,hall,by show ((n - np t.size:Nat):Int)≠0;omega,by show (s.log++_).length=_;rw [List.length_append,hlen]⟩
      ·rw [hE];intro e;exact absurd rfl e
      ·rw [hE];intro e;cases e
      ·intro e;omega
     ·rw [if_neg hlt] at e;rw [e,if_neg (show ¬(false=true) by decide)] at hE;rw [e] at hS
      have hlog:(s.log++(apW ps.length (recs 1 ps).length t).take n).length=s.log.length+n:=by
       rw [List.length_append,List.length_take,hlen,Nat.min_eq_left (by omega)]
      constructor
      ·rw [hE];intro e;cases e
      ·rw [hE];intro _ e;exact absurd rfl e
      ·intro _;rw [hS];refine ⟨n,hlog,?_⟩;by_cases hnn:n=np t.size
       ·exact .inl ⟨by omega,hnn,h.put_all (by omega) hf' n (by omega) 0 (by decide) (by decide)⟩
       ·exact .inr ⟨fun e=>hnn e.2,t,n,h.put_part (by omega) hf' n (by omega) 0 (by decide) (by decide)⟩
      ·intro e;omega
theorem Hs.again {k:Nat} (h:Hs s ps t k k) (h0:s.left≠0):opS s=s∧opB s=true:=by
 have hw:=h.wipes;rw [Nat.sub_self] at hw;have e:wl (opw s) s=(s,true):=by rw [hw];rfl
 unfold opS opB;rw [if_neg h0,if_neg h0,e];exact ⟨rfl,rfl⟩
theorem Hs.new:Hs nu [] ⟨#[]⟩ 0 0:=by
 refine ⟨nu_ok,by simp,by decide,by decide,Nat.le_refl _,by simp [recs],?_⟩;show rp (fnI []) []=_
 simp [rp,recs,tl]
end
theorem Wrote.next {N:Nat} {w w1 w2:World} {p:Nat} {s2:St} {b m:Nat} {x x1:Value} (k1:Kept (Fd p b m x) w w1) (f1:∀k,Fd p b m x1 k→Fd p b m x k∨w.heap.size≤k) (h:Wrote N w1 p s2 b m x1 w2):Wrote N w p s2 b m x w2:=by
 obtain ⟨x2,d2,k2,f2⟩:=h;refine ⟨x2,d2,k1.trans k2 (fun i hi hF=>(f1 i hF).elim id (fun h=>absurd h (by omega))),fun j hj=>?_⟩;rcases f2 j hj with h | h
 ·exact f1 j h
 ·exact .inr (Nat.le_trans k1.size h)
theorem Wrote.later {N:Nat} {w w1 w2:World} {p:Nat} {s:St} {b m:Nat} {x:Value} (h:Wrote N w p s b m x w1) (hb:Below w1.heap.size w1 w2):Wrote N w p s b m x w2:=by
 obtain ⟨x1,d1,k1,f1⟩:=h;exact ⟨x1,d1.later hb,k1.trans (Kept.ofBelow (F:=fun _=>False) hb) (fun _ _ h=>h.elim),f1⟩
theorem Wrote.size {N:Nat} {w w1:World} {p:Nat} {s:St} {b m:Nat} {x:Value} (h:Wrote N w p s b m x w1):w.heap.size≤w1.heap.size:=by
 obtain ⟨x1,d1,k1,f1⟩:=h;exact k1.size
/- What isn't a block of a disk's types isn't of the disk. -/
theorem Dk.notT {N:Nat} {w:World} {p:Nat} {s:St} {b m:Nat} {x:Value} (h:Dk N w p s b m x) {o:Nat} {cs:Array Value} {t:TypeId} {fz:Nat×Nat} (ho:w.heap[o]? =some (.cells cs t fz)) (h1:t≠132) (h2:t≠139):¬Fd p b m x o:=fun e=>by
 rcases e with rfl | rfl | rfl | e
 ·have q:=h.blk;rw [ho] at q;simp at q;exact h1 q.2.1
 ·obtain ⟨es,cl,hh⟩:=h.mb.isMap;rw [ho] at hh;cases hh
 ·obtain ⟨es,cl,hh⟩:=h.mm.isMap;rw [ho] at hh;cases hh
 ·rcases h.row.2 with ⟨h0,_⟩ | ⟨g,cap,cur,rfl,hb,hgg,rest⟩
  ·subst h0;cases e
  ·cases e
   rw [ho] at hgg;cases hgg;exact h2 rfl
set_option maxHeartbeats 1000000 in
theorem lasting_any (N:Nat) (w:World) (p:Nat) (s:St) (b m:Nat) (x:Value) (h:Dk N w p s b m x) (at':Int) (t:ByteArray) (h0:s.left≠0) (hg:Gp (at',t)) (hl:s.log.length+1≤5864062014805) (hN:N≤w.heap.size):
  Calls Tryz.prog 139 #[.pointer (some ⟨p,0,none⟩),.int .i64 at',.string t] w fun e w'=>e=.returned (.bool (decide ((nx s at' t).left≠0)))∧Wrote N w p (nx s at' t) b m x w':=by
 have hg':=hg;obtain ⟨g1,g2,g3⟩:=hg;have hwr:=write_any N w p s b m x h at' t (wf_of (by simp at g1;omega) (by simp at g2;omega)) (by simp at g3;omega) hl hN;rw [we_good h0 hg'] at hwr;obtain ⟨s',hs'⟩:∃s',nx s at' t=s':=⟨_,rfl⟩;rw [hs'] at hwr ⊢;obtain ⟨B,hB⟩:∃B,decide (s'.left≠0)=B:=⟨_,rfl⟩;have HBB:Hid (decide (s'.left≠0)=B):=hB;rw [hB];clear h h0 hg' g1 g2 g3 hl hN hs' hB;go_enter Tryz.func139,Tryz.ntmps139;go_wp2_with fail
 refine hwr.mono ?_;rintro e w1 ⟨rfl,hW⟩;have HW:Hid (Wrote N w p s' b m x w1):=hW;obtain ⟨x1,d1,-,-⟩:=hW;have hon:=on_any N w1 p s' b m x1 d1;rw [HBB.out] at hon;clear hwr d1;go_wp2_with fail
 refine hon.mono ?_;rintro e w2 ⟨rfl,rfl⟩;go_wp2_with fail
 go_ret;exact ⟨rfl,HW.out⟩
theorem wps_cons {l:List ByteArray} {k:Nat} (hk:k<l.length):wps (l.drop k) k=if (l.getD k ⟨#[]⟩).size=0 then wps (l.drop (k+1)) (k+1) else ((k:Int),⟨#[]⟩)::wps (l.drop (k+1)) (k+1):=by
 rw [List.drop_eq_getElem_cons hk,wps,←getD_yes (d:=⟨#[]⟩) l k hk]
theorem str_empty {t:ByteArray} (h:t.size=0):t.toList.isEmpty=true:=by rw [nob_of h,ByteArray.toList_eq];rfl
set_option maxHeartbeats 2000000 in
theorem wipe_any (N:Nat) (w:World) (p:Nat) (s:St) (b m:Nat) (x:Value) (h:Dk N w p s b m x) (a:Option Addr) (cap:Nat) (l:List ByteArray) (E:Nat) (hrd:RdS w a l) (hF:∀g o,a=some ⟨g,o,none⟩→¬Fd p b m x g) (h0:s.left≠0) (hl:l.length≤2048) (hE:E≤l.length) (hlog:s.log.length+2048≤5864062014805) (hN:N≤w.heap.size):
  Calls Tryz.prog 126 #[.pointer (some ⟨p,0,none⟩),.slice a l.length cap,.int .i64 (E:Int)] w fun e w'=>e=.returned (.bool (wl (wps (l.drop E) E) s).2)∧Wrote N w p (wl (wps (l.drop E) E) s).1 b m x w':=by
 have HRD:Hid (RdS w a l):=hrd;have HF:Hid (∀g o,a=some ⟨g,o,none⟩→¬Fd p b m x g):=hF;have HD:Hid (Dk N w p s b m x):=h;obtain ⟨R,hR⟩:∃R,wl (wps (l.drop E) E) s=R:=⟨_,rfl⟩;have HR:Hid (wl (wps (l.drop E) E) s=R):=hR;obtain ⟨n,hn⟩:∃n,l.length=n:=⟨_,rfl⟩;have HLN:Hid (l.length=n):=hn;rw [hn] at hl hE ⊢;rw [hR];clear hn hrd hF h hR;go_enter Tryz.func126,Tryz.ntmps126;go_wp2_with fail
 go_loopw [7] (fun i wr=>∃(k:Nat) (s':St),E≤k∧k≤n∧i=.int .i64 (k:Int)∧Wrote N w p s' b m x wr∧s'.left≠0∧wl (wps (l.drop k) k) s'=R∧s'.log.length≤s.log.length+k) (fun i _=>n - (intOf i).toNat)
 case atStart=>exact ⟨E,s,Nat.le_refl _,hE,rfl,HD.out.same,h0,HR.out,by omega⟩
 case round=>
  obtain ⟨k,s',hk1,hk2,rfl,hW,hs0,hwl,hlg⟩:=hrel;have HW:Hid (Wrote N w p s' b m x wr):=hW;have HWL:Hid (wl (wps (l.drop k) k) s'=R):=hwl;obtain ⟨x',d',kp,fp⟩:=hW;have hsz:=kp.size;by_cases hkn:k<n
  ·obtain ⟨g,o,ea,c0⟩:=(HRD.out.kept kp HF.out) k (by rw [HLN.out];exact hkn);subst ea;have HWC:Hid (wps (l.drop k) k=if (l.getD k ⟨#[]⟩).size=0 then wps (l.drop (k+1)) (k+1) else ((k:Int),⟨#[]⟩)::wps (l.drop (k+1)) (k+1)):=wps_cons (by rw [HLN.out];exact hkn);have j1:(0:Int)≤(k:Int):=by omega
   have j2:(k:Int)<(n:Int):=by omega
   by_cases hX:(l.getD k ⟨#[]⟩).size=0
   ·have hst:=str_empty hX
    have HN':Hid (wl (wps (l.drop (k+1)) (k+1)) s'=R):=by
     show _=_
     rw [←HWL.out,HWC.out,if_pos hX]
    obtain ⟨X,hXX⟩:∃X,l.getD k ⟨#[]⟩=X:=⟨_,rfl⟩;rw [hXX] at c0 hst;clear hX hXX hwl d' kp fp;go_wp2_with fail
    go_roundw
    case rel=>exact ⟨k+1,s',by omega,by omega,by go_num,HW.out,hs0,HN'.out,by omega⟩
    case measure=>simp [intOf];omega
   ·have hst:=nob_no hX;have hla:=lasting_any N wr p s' b m x' d' (k:Int) ⟨#[]⟩ hs0 ⟨by show (0:Int)≤(k:Int);omega,by show (k:Int)<2048;omega,by show (⟨#[]⟩:ByteArray).size≤32;decide⟩ (by omega) (Nat.le_trans hN hsz)
    have HC:Hid (wl (((k:Int),⟨#[]⟩)::wps (l.drop (k+1)) (k+1)) s'=R):=by
     show _=_
     rw [←HWL.out,HWC.out,if_neg hX]
    have HLG:Hid ((nx s' (k:Int) ⟨#[]⟩).log.length≤s'.log.length+1):=nx_log _ _ _;have HTR:Hid (∀w3,Wrote N wr p (nx s' (k:Int) ⟨#[]⟩) b m x' w3→Wrote N w p (nx s' (k:Int) ⟨#[]⟩) b m x w3):=fun w3 h3=>Wrote.next kp fp h3
    obtain ⟨X,hXX⟩:∃X,l.getD k ⟨#[]⟩=X:=⟨_,rfl⟩;rw [hXX] at c0 hst;obtain ⟨s2,hs2⟩:∃s2,nx s' (k:Int) ⟨#[]⟩=s2:=⟨_,rfl⟩;have HS2:Hid (nx s' (k:Int) ⟨#[]⟩=s2):=hs2;rw [hs2] at hla HTR HLG;clear hX hXX hwl d' kp fp hs2;go_wp2_with fail
    refine hla.mono ?_;rintro e w3 ⟨rfl,hW3⟩;have HW3:Hid (Wrote N w p s2 b m x w3):=HTR.out w3 hW3;clear hla hW3;by_cases hz:s2.left=0
    ·have hb:decide (s2.left≠0)=false:=by simp [hz]
     have HE:Hid (R=(s2,false)):=by
      show _=_
      rw [←HC.out,wl_off (by rw [HS2.out];exact hz),HS2.out]
     rw [hb];clear hz hb;go_wp2_with fail
     go_ret;rw [HE.out];exact ⟨rfl,HW3.out⟩
    ·have hb:decide (s2.left≠0)=true:=by simp [hz]
     have HE:Hid (wl (wps (l.drop (k+1)) (k+1)) s2=R):=by
      show _=_
      rw [←HC.out,wl_on (by rw [HS2.out];exact hz),HS2.out]
     rw [hb];clear hb;go_wp2_with fail
     go_roundw
     case rel=>exact ⟨k+1,s2,by omega,by omega,by go_num,HW3.out,hz,HE.out,by have:=HLG.out;omega⟩
     case measure=>simp [intOf];omega
  ·have i2:decide ((k:Int)<(n:Int))=false:=by simp;omega
   have HE:Hid (R=(s',true)):=by
    show _=_
    rw [←HWL.out,List.drop_eq_nil_of_le (by rw [HLN.out];omega),wps,wl]
   clear hwl d' kp;go_wp2_with fail
   go_ret;rw [HE.out];exact ⟨rfl,HW.out⟩
end Go.Proofs.YtoimkngkcliinaaGreatDoor.Jr.Dk
