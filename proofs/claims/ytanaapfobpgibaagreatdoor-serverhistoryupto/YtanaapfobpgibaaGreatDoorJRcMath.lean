/- RcMath, RcA, joined. -/
import Derived.Test.YtanaapfobpgibaaGreatDoorJBitDone
import Derived.Test.YtanaapfobpgibaaGreatDoorJPlH
open Go.Proofs.Tryz
namespace Go.Proofs.YtanaapfobpgibaaGreatDoor.Rc
open Go.RowKit
open Bt (bv bo a_ ma kq Rh tb bT nY pk Ic Ho FB yQ tx bA Bd ET a8 nW dn aA okF aM ua ub)
set_option linter.unusedVariables false
set_option maxRecDepth 4000
set_option linter.unusedSimpArgs false
variable {p:Nat×Bool} {e f:Int} {L:List Int} {J:List (Int×Int)} {A T Z:List Bool} {c v w:Nat} {l:List (Nat×Int)}
def who (x:Int):Bool:=decide (0≤x)&&decide (x<256)
def pU (p:Int×Int):Bool:=who p.1&&(decide (0≤p.2)&&decide (p.2<64))
theorem jX {x:Int}:who x=true↔0≤x∧x<256:=by simp [who]
theorem j7 {p:Int×Int}:pU p=true↔(0≤p.1∧p.1<256)∧0≤p.2∧p.2<64:=by simp [pU,who]
structure W6 (e f:Int) (L:List Int) (J:List (Int×Int)):Prop where
 e1:1≤e
 e2:e≤200
 f1:22≤f
 f2:f≤32768
 l1:L.length≤64
 j1:J.length≤64
 lw:∀x∈L,who x=true
 js:∀p∈J,pU p=true
def fw (e f:Int) (L:List Int) (J:List (Int×Int)):Bool:=
 (decide (1≤e)&&decide (e≤200)&&decide (22≤f)&&decide (f≤32768))&&(decide (L.length≤64)&&decide (J.length≤64))&&(L.all who&&J.all pU)
theorem ie:fw e f L J=true↔W6 e f L J:=by
 unfold fw;simp only [Bool.and_eq_true,decide_eq_true_eq,List.all_eq_true];exact ⟨fun ⟨⟨⟨⟨⟨a,b⟩,c⟩,d⟩,g,h⟩,i,j⟩=>⟨a,b,c,d,g,h,i,j⟩,fun h=>⟨⟨⟨⟨⟨h.e1,h.e2⟩,h.f1⟩,h.f2⟩,h.l1,h.j1⟩,h.lw,h.js⟩⟩
/- A record's fields. -/
def fL (L:List Int):List (Nat×Int):=L.map fun x=>(x.toNat,8)
def fJ (J:List (Int×Int)):List (Nat×Int):=J.flatMap fun p=>[(p.1.toNat,8),(p.2.toNat,6)]
def dM (e f:Int) (L:List Int) (J:List (Int×Int)):List (Nat×Int):=[(e.toNat,8),(f.toNat,16),(L.length,7)]++fL L++[(J.length,7)]++fJ J
theorem UO (L:List Int) (x:Int):fL (L++[x])=fL L++[(x.toNat,8)]:=by simp [fL]
theorem UQ (J:List (Int×Int)) (p:Int×Int):fJ (J++[p])=fJ J++[(p.1.toNat,8),(p.2.toNat,6)]:=by simp [fJ]
@[simp] theorem aam (L:List Int):(fL L).length=L.length:=by simp [fL]
@[simp] theorem aan (J:List (Int×Int)):(fJ J).length=2 * J.length:=by
 induction J with
 | nil=>rfl
 | cons p J ih=>
  show ([(p.1.toNat,(8:Int)),(p.2.toNat,6)]++fJ J).length=_
  rw [List.length_append,ih];simp;omega
theorem tJ (e f:Int) (L:List Int) (J:List (Int×Int)):(dM e f L J).length=4+L.length+2 * J.length:=by simp [dM];omega
/- Numbers that fit their widths. -/
structure Fit (e f:Int) (L:List Int) (J:List (Int×Int)):Prop where
 e1:0≤e
 e2:e<256
 f1:0≤f
 f2:f<65536
 l1:L.length<128
 j1:J.length<128
 lw:∀x∈L,who x=true
 js:∀p∈J,pU p=true
theorem W6.fit (h:W6 e f L J):Fit e f L J:=by
 obtain ⟨a,b,c,d,e,f,g,i⟩:=h;exact ⟨by omega,by omega,by omega,by omega,by omega,by omega,g,i⟩
theorem Fit.ok (h:Fit e f L J):∀x∈dM e f L J,okF x=true:=by
 obtain ⟨a,b,c,d,l1,j1,g,i⟩:=h;intro x hx;simp only [dM,fL,fJ,List.mem_append,List.mem_cons,List.mem_map,List.mem_flatMap,List.not_mem_nil,or_false] at hx
 have key:∀(v:Nat) (n:Nat),1≤n→n≤64→v<2^n→okF (v,(n:Int))=true:=fun v n h1 h2 h3=>by
  unfold okF Bt.gw;simp;exact ⟨⟨by omega,by omega⟩,h3⟩
 rcases hx with (((rfl | rfl | rfl) | ⟨y,hy,rfl⟩) | rfl) | ⟨p,hp,rfl | rfl⟩
 ·exact key e.toNat 8 (by omega) (by omega) (by omega)
 ·exact key f.toNat 16 (by omega) (by omega) (by omega)
 ·exact key _ 7 (by omega) (by omega) (by omega)
 ·have:=jX.1 (g y hy);exact key y.toNat 8 (by omega) (by omega) (by omega)
 ·exact key _ 7 (by omega) (by omega) (by omega)
 ·have:=j7.1 (i p hp);exact key p.1.toNat 8 (by omega) (by omega) (by omega)
 ·have:=j7.1 (i p hp);exact key p.2.toNat 6 (by omega) (by omega) (by omega)
theorem Fit.all (h:Fit e f L J):(dM e f L J).all okF=true:=List.all_eq_true.2 h.ok
theorem uW (L:List Int):(aA (fL L)).length=8 * L.length:=by
 induction L with
 | nil=>rfl
 | cons x L ih=>
  show (bo x.toNat 8++aA (fL L)).length=_
  rw [List.length_append,ih];simp;omega
theorem JD (J:List (Int×Int)):(aA (fJ J)).length=14 * J.length:=by
 induction J with
 | nil=>rfl
 | cons p J ih=>
  show (bo p.1.toNat 8++(bo p.2.toNat 6++aA (fJ J))).length=_
  rw [List.length_append,List.length_append,ih];simp;omega
theorem sM (e f:Int) (L:List Int) (J:List (Int×Int)):(aA (dM e f L J)).length=38+8 * L.length+14 * J.length:=by
 unfold dM;rw [aM,aM,aM,List.length_append,List.length_append,List.length_append,uW,JD];have h1:(aA [(e.toNat,8),(f.toNat,16),(L.length,7)]).length=31:=by simp [aA]
 have h2:(aA [(J.length,(7:Int))]).length=7:=by simp [aA]
 omega
/- What is written. -/
def t_ (e f:Int) (L:List Int) (J:List (Int×Int)):ByteArray:=if fw e f L J then tx (pk (aA (dM e f L J))) else tx []
def Ma (e f:Int) (L:List Int) (J:List (Int×Int)):Int:=if fw e f L J then 0 else 12
theorem VE (h:fw e f L J=true):ua (dM e f L J)=t_ e f L J∧ub (dM e f L J)=0:=by
 have:=(ie.1 h).fit.all;simp [ua,ub,t_,h,this]
/- One number taken: its value, the place behind it, whether one lacked. -/
def dW (T:List Bool) (p:Nat×Bool) (w:Nat):Nat×(Nat×Bool):=if p.1+w≤T.length then (bv ((T.drop p.1).take w),(p.1+w,p.2)) else (0,(p.1,true))
def yV (T:List Bool) (w:Nat) (p:Nat×Bool):Nat→Nat×Bool
 | 0=>p
 | n+1=>(dW T (yV T w p n) w).2
def vZ (T:List Bool) (w:Nat) (p:Nat×Bool):Nat→List Nat
 | 0=>[]
 | n+1=>vZ T w p n++[(dW T (yV T w p n) w).1]
def vM (T:List Bool) (p:Nat×Bool):Nat→Nat×Bool
 | 0=>p
 | n+1=>(dW T (dW T (vM T p n) 8).2 6).2
def vN (T:List Bool) (p:Nat×Bool):Nat→List (Nat×Nat)
 | 0=>[]
 | n+1=>vN T p n++[((dW T (vM T p n) 8).1,(dW T (dW T (vM T p n) 8).2 6).1)]
@[simp] theorem FH (T:List Bool) (w:Nat) (p:Nat×Bool) (n:Nat):(vZ T w p n).length=n:=by
 induction n with
 | zero=>rfl
 | succ n ih=>simp [vZ,ih]
@[simp] theorem Fx (T:List Bool) (p:Nat×Bool) (n:Nat):(vN T p n).length=n:=by
 induction n with
 | zero=>rfl
 | succ n ih=>simp [vN,ih]
theorem kA (T:List Bool) (p:Nat×Bool) (w:Nat):(dW T p w).1<2^w:=by
 unfold dW;split
 ·refine Nat.lt_of_lt_of_le (ma _) (Nat.pow_le_pow_right (by decide) ?_);simp;omega
 ·exact Nat.two_pow_pos w
theorem kz (h:(dW T p w).2.2=false):p.2=false∧p.1+w≤T.length∧dW T p w=(bv ((T.drop p.1).take w),(p.1+w,false)):=by
 unfold dW at h ⊢;split at h
 ·rename_i hc
  rw [if_pos hc];have h':p.2=false:=h;exact ⟨h',hc,by rw [h']⟩
 ·cases h
theorem j_ (h:c+w≤T.length):dW T (c,false) w=(bv ((T.drop c).take w),(c+w,false)):=by unfold dW;rw [if_pos h]
theorem Ox {T:List Bool} {p:Nat×Bool} {w:Nat}:∀{n:Nat},(yV T w p n).2=false→p.2=false
 | 0,h=>h
 | n+1,h=>Ox (kz h).1
theorem N0 {T:List Bool} {p:Nat×Bool}:∀{n:Nat},(vM T p n).2=false→p.2=false
 | 0,h=>h
 | n+1,h=>N0 (kz (kz h).1).1
/- The fields l stand at the beginning, and the place is behind them. -/
def At (T:List Bool) (l:List (Nat×Int)) (p:Nat×Bool):Prop:=p=((aA l).length,false)∧T.take (aA l).length=aA l
theorem At.le (h:At T l p):(aA l).length≤T.length:=by
 have:=congrArg List.length h.2;rw [List.length_take] at this;omega
theorem At.nil (T:List Bool):At T [] (0,false):=⟨rfl,rfl⟩
theorem At.step (h:At T l p) (hn:(dW T p w).2.2=false):At T (l++[((dW T p w).1,(w:Int))]) (dW T p w).2:=by
 obtain ⟨h1,h2⟩:=h;obtain ⟨n1,n2,n3⟩:=kz hn;rw [n3];have hp:p.1=(aA l).length:=by rw [h1]
 have hl:((T.drop p.1).take w).length=w:=by simp;omega
 have hb:aA [(bv ((T.drop p.1).take w),(w:Int))]=(T.drop p.1).take w:=by
  show bo _ (w:Int).toNat++[]=_
  rw [List.append_nil,Int.toNat_natCast];have:=Rh ((T.drop p.1).take w);rw [hl] at this;exact this
 refine ⟨?_,?_⟩
 ·dsimp only;rw [aM,hb,List.length_append,hl,hp]
 ·dsimp only;rw [aM,hb,List.length_append,hl,List.take_add,h2,hp]
theorem At.steps {T:List Bool} {l:List (Nat×Int)} {p:Nat×Bool} (h:At T l p) {w:Nat}:∀{n:Nat},(yV T w p n).2=false→At T (l++(vZ T w p n).map fun v=>(v,(w:Int))) (yV T w p n)
 | 0,_=>by simpa [vZ,yV] using h
 | n+1,hn=>by
  have:=(h.steps (n:=n) (kz hn).1).step hn
  simpa [vZ,yV] using this
theorem At.pairs {T:List Bool} {l:List (Nat×Int)} {p:Nat×Bool} (h:At T l p):∀{n:Nat},(vM T p n).2=false→At T (l++(vN T p n).flatMap fun q=>[(q.1,(8:Int)),(q.2,(6:Int))]) (vM T p n)
 | 0,_=>by simpa [vN,vM] using h
 | n+1,hn=>by
  have h2:=(kz hn).1;have:=((h.pairs (n:=n) (kz h2).1).step h2).step hn
  simpa [vN,vM] using this
/- A whole record taken. -/
def e1 (T:List Bool):=dW T (0,false) 8
def e2 (T:List Bool):=dW T (e1 T).2 16
def e3 (T:List Bool):=dW T (e2 T).2 7
def s4 (T:List Bool):=yV T 8 (e3 T).2 (e3 T).1
def e5 (T:List Bool):=dW T (s4 T) 7
def s6 (T:List Bool):=vM T (e5 T).2 (e5 T).1
def kN (T:List Bool):Int:=((e1 T).1:Int)
def kM (T:List Bool):Int:=((e2 T).1:Int)
def zb (l:List Nat):List Int:=l.map fun n:Nat=>(n:Int)
def za (l:List (Nat×Nat)):List (Int×Int):=l.map fun q:Nat×Nat=>((q.1:Int),(q.2:Int))
def jh (T:List Bool):List Int:=zb (vZ T 8 (e3 T).2 (e3 T).1)
def n_ (T:List Bool):List (Int×Int):=za (vN T (e5 T).2 (e5 T).1)
def rF (T:List Bool):List (Nat×Int):=dM (kN T) (kM T) (jh T) (n_ T)
theorem F6 (l:List Nat):(zb l).length=l.length:=by simp [zb]
theorem F5 (l:List (Nat×Nat)):(za l).length=l.length:=by simp [za]
theorem lG (T:List Bool):(jh T).length=(e3 T).1:=by simp [jh,zb]
theorem pz (T:List Bool):(n_ T).length=(e5 T).1:=by simp [n_,za]
theorem Oz (T:List Bool) (w:Nat) (p:Nat×Bool):∀(n:Nat) (x:Nat),x∈vZ T w p n→x<2^w
 | 0,x,h=>by cases h
 | n+1,x,h=>by
  rcases List.mem_append.1 h with h | h
  ·exact Oz T w p n x h
  ·simp at h;subst h;exact kA _ _ _
theorem N2 (T:List Bool) (p:Nat×Bool):∀(n:Nat) (x:Nat×Nat),x∈vN T p n→x.1<256∧x.2<64
 | 0,x,h=>by cases h
 | n+1,x,h=>by
  rcases List.mem_append.1 h with h | h
  ·exact N2 T p n x h
  ·simp at h;subst h;exact ⟨kA _ _ 8,kA _ _ 6⟩
theorem XT (T:List Bool):Fit (kN T) (kM T) (jh T) (n_ T):=by
 have a:=kA T (0,false) 8;have b:=kA T (e1 T).2 16;have c:=kA T (e2 T).2 7;have d:=kA T (s4 T) 7;refine ⟨by unfold kN;omega,by unfold kN e1;omega,by unfold kM;omega,by unfold kM e2;omega,by rw [lG];exact c,by rw [pz];exact d,?_,?_⟩
 ·intro x hx;simp only [jh,zb,List.mem_map] at hx;obtain ⟨n,hn,rfl⟩:=hx;have:=Oz _ _ _ _ _ hn;exact jX.2 ⟨by omega,by omega⟩
 ·intro x hx;simp only [n_,za,List.mem_map] at hx;obtain ⟨q,hq,rfl⟩:=hx;have:=N2 _ _ _ _ hq;exact j7.2 (by dsimp only;omega)
theorem aaF (T:List Bool):rF T=[((e1 T).1,8),((e2 T).1,16),((e3 T).1,7)]++(vZ T 8 (e3 T).2 (e3 T).1).map (fun v=>(v,(8:Int)))++[((e5 T).1,7)]++(vN T (e5 T).2 (e5 T).1).flatMap (fun q=>[(q.1,(8:Int)),(q.2,(6:Int))]):=by
 unfold rF dM;rw [lG,pz]
 congr 2
 ·congr 1
  simp [fL,jh,zb,List.map_map,Function.comp_def]
 ·simp [fJ,n_,za,List.flatMap_map]
theorem VS (h:(s6 T).2=false):At T (rF T) (s6 T):=by
 have h5:=N0 h;have h4:=(kz h5).1;have h3:=Ox h4;have h2:=(kz h3).1;have h1:=(kz h2).1;have a3:=(((At.nil T).step h1).step h2).step h3;have a4:=a3.steps (w:=8) (n:=(e3 T).1) h4;have a6:=(a4.step h5).pairs (n:=(e5 T).1) h;rw [aaF];have e:(([]++[((dW T (0,false) 8).1,((8:Nat):Int))]++[((dW T (dW T (0,false) 8).2 16).1,((16:Nat):Int))]++[((dW T (dW T (dW T (0,false) 8).2 16).2 7).1,((7:Nat):Int))]:List (Nat×Int)))=[((e1 T).1,8),((e2 T).1,16),((e3 T).1,7)]:=rfl;rw [e] at a6;exact a6
theorem Im {T:List Bool} {c w:Nat}:∀{n:Nat},c+w * n≤T.length→yV T w (c,false) n=(c+w * n,false)
 | 0,_=>rfl
 | n+1,h=>by
  rw [Nat.mul_succ] at h ⊢;rw [yV,Im (n:=n) (by omega),j_ (by omega)];dsimp only;rw [Nat.add_assoc]
theorem H' {T:List Bool} {c:Nat}:∀{n:Nat},c+14 * n≤T.length→vM T (c,false) n=(c+14 * n,false)
 | 0,_=>rfl
 | n+1,h=>by
  rw [vM,H' (n:=n) (by omega),j_ (by omega),j_ (by omega)]
  congr 1
theorem Ts (h:(aA (rF T)).length≤T.length):(s6 T).2=false:=by
 unfold rF at h;rw [sM,lG,pz] at h;have h1:(e1 T).2=(8,false):=by unfold e1;rw [j_ (by omega)]
 have h2:(e2 T).2=(24,false):=by unfold e2;rw [h1,j_ (by omega)]
 have h3:(e3 T).2=(31,false):=by unfold e3;rw [h2,j_ (by omega)]
 have h4:s4 T=(31+8 * (e3 T).1,false):=by unfold s4;rw [h3,Im (by omega)]
 have h5:(e5 T).2=(31+8 * (e3 T).1+7,false):=by unfold e5;rw [h4,j_ (by omega)]
 unfold s6;rw [h5,H' (by omega)]
/- What was written is read. -/
theorem OI (hv:v<2^w):dW (A++(bo v w++Z)) (A.length,false) w=(v,(A.length+w,false)):=by
 rw [j_ (by simp)]
 have:((A++(bo v w++Z)).drop A.length).take w=bo v w:=by
  rw [List.drop_left' rfl,List.take_left' (by simp)]
 rw [this,kq,Nat.mod_eq_of_lt hv]
theorem gV (hT:T=A++(bo v w++Z)) (hc:c=A.length) (hv:v<2^w):dW T (c,false) w=(v,(c+w,false)):=by subst hT hc;exact OI hv
theorem Il {A Z T:List Bool} {L:List Int} {c:Nat} (hT:T=A++(aA (fL L)++Z)) (hc:c=A.length) (hL:∀x∈L,who x=true):∀k,k≤L.length→yV T 8 (c,false) k=(c+8 * k,false)∧zb (vZ T 8 (c,false) k)=L.take k
 | 0,_=>⟨rfl,rfl⟩
 | k+1,hk=>by
  obtain ⟨h1,h2⟩:=Il hT hc hL k (by omega);have hx:=jX.1 (hL L[k] (List.getElem_mem (by omega)));have e:L=L.take k++(L[k]::L.drop (k+1)):=by rw [List.getElem_cons_drop];simp
  have hf:aA (fL L)=aA (fL (L.take k))++(bo L[k].toNat 8++aA (fL (L.drop (k+1)))):=by
   conv=>lhs;rw [e]
   unfold fL;rw [List.map_append,aM];rfl
  have hn:=gV (T:=T) (A:=A++aA (fL (L.take k))) (Z:=aA (fL (L.drop (k+1)))++Z) (v:=L[k].toNat) (w:=8) (c:=c+8 * k) (by rw [hT,hf];simp) (by rw [List.length_append,uW,List.length_take,Nat.min_eq_left (by omega),hc]) (by omega);refine ⟨?_,?_⟩
  ·rw [yV,h1,hn];congr 1
  ·rw [vZ,h1,hn,List.take_succ_eq_append_getElem (by omega),←h2];simp [zb];omega
theorem H_ {A Z T:List Bool} {J:List (Int×Int)} {c:Nat} (hT:T=A++(aA (fJ J)++Z)) (hc:c=A.length) (hJ:∀x∈J,pU x=true):∀k,k≤J.length→vM T (c,false) k=(c+14 * k,false)∧za (vN T (c,false) k)=J.take k
 | 0,_=>⟨rfl,rfl⟩
 | k+1,hk=>by
  obtain ⟨h1,h2⟩:=H_ hT hc hJ k (by omega);have hx:=j7.1 (hJ J[k] (List.getElem_mem (by omega)));have e:J=J.take k++(J[k]::J.drop (k+1)):=by rw [List.getElem_cons_drop];simp
  have hf:aA (fJ J)=aA (fJ (J.take k))++(bo J[k].1.toNat 8++(bo J[k].2.toNat 6++aA (fJ (J.drop (k+1))))):=by
   conv=>lhs;rw [e]
   unfold fJ;rw [List.flatMap_append,aM];rfl
  have hl:(aA (fJ (J.take k))).length=14 * k:=by rw [JD,List.length_take,Nat.min_eq_left (by omega)]
  have hn:=gV (T:=T) (A:=A++aA (fJ (J.take k))) (Z:=bo J[k].2.toNat 6++(aA (fJ (J.drop (k+1)))++Z)) (v:=J[k].1.toNat) (w:=8) (c:=c+14 * k) (by rw [hT,hf];simp) (by rw [List.length_append,hl,hc]) (by omega);have hm:=gV (T:=T) (A:=A++aA (fJ (J.take k))++bo J[k].1.toNat 8) (Z:=aA (fJ (J.drop (k+1)))++Z) (v:=J[k].2.toNat) (w:=6) (c:=c+14 * k+8) (by rw [hT,hf];simp) (by rw [List.length_append,List.length_append,hl,hc];simp) (by omega);refine ⟨?_,?_⟩
  ·rw [vM,h1,hn];dsimp only;rw [hm];congr 1
  ·rw [vN,h1,hn];dsimp only;rw [hm,List.take_succ_eq_append_getElem (by omega),←h2];have a:((J[k].1.toNat:Nat):Int)=J[k].1:=by omega
   have b:((J[k].2.toNat:Nat):Int)=J[k].2:=by omega
   simp only [za,List.map_append,List.map_cons,List.map_nil,a,b]
theorem Tt (h:Fit e f L J) (Z:List Bool) (hT:T=aA (dM e f L J)++Z):
  kN T=e∧kM T=f∧jh T=L∧n_ T=J∧s6 T=((aA (dM e f L J)).length,false):=by
 have hsp:aA (dM e f L J)=bo e.toNat 8++(bo f.toNat 16++(bo L.length 7++(aA (fL L)++(bo J.length 7++aA (fJ J))))):=by
  simp [dM,aA]
 rw [hsp] at hT
 have h1:e1 T=(e.toNat,(8,false)):=by
  unfold e1;exact gV (A:=[]) (Z:=bo f.toNat 16++(bo L.length 7++(aA (fL L)++(bo J.length 7++(aA (fJ J)++Z))))) (by rw [hT];simp) rfl (by have:=h.e2;omega)
 have h2:e2 T=(f.toNat,(24,false)):=by
  unfold e2;rw [h1];exact gV (A:=bo e.toNat 8) (Z:=bo L.length 7++(aA (fL L)++(bo J.length 7++(aA (fJ J)++Z)))) (by rw [hT];simp) (by simp) (by have:=h.f2;omega)
 have h3:e3 T=(L.length,(31,false)):=by
  unfold e3;rw [h2];exact gV (A:=bo e.toNat 8++bo f.toNat 16) (Z:=aA (fL L)++(bo J.length 7++(aA (fJ J)++Z))) (by rw [hT];simp) (by simp) (by have:=h.l1;omega)
 obtain ⟨h4,h4'⟩:=Il (A:=bo e.toNat 8++bo f.toNat 16++bo L.length 7) (Z:=bo J.length 7++(aA (fJ J)++Z)) (T:=T) (L:=L) (c:=31) (by rw [hT];simp) (by simp) h.lw L.length (Nat.le_refl _)
 have h5:e5 T=(J.length,(31+8 * L.length+7,false)):=by
  unfold e5 s4;rw [h3,h4];exact gV (A:=bo e.toNat 8++bo f.toNat 16++bo L.length 7++aA (fL L)) (Z:=aA (fJ J)++Z) (by rw [hT];simp) (by simp only [List.length_append,a_,uW]) (by have:=h.j1;omega)
 obtain ⟨h6,h6'⟩:=H_ (A:=bo e.toNat 8++bo f.toNat 16++bo L.length 7++aA (fL L)++bo J.length 7) (Z:=Z) (T:=T) (J:=J) (c:=31+8 * L.length+7) (by rw [hT];simp) (by simp only [List.length_append,a_,uW]) h.js J.length (Nat.le_refl _);refine ⟨?_,?_,?_,?_,?_⟩
 ·unfold kN;rw [h1];have:=h.e1;omega
 ·unfold kM;rw [h2];have:=h.f1;omega
 ·unfold jh;rw [h3,h4',List.take_length]
 ·unfold n_;rw [h5,h6',List.take_length]
 ·unfold s6;rw [h5,h6,sM]
  congr 1;omega
/- What Read answers. -/
def xZ (T:List Bool):Bool:=(!(s6 T).2&&dn T (s6 T).1)&&fw (kN T) (kM T) (jh T) (n_ T)
def Tw (T:List Bool):Int:=if xZ T then 0 else 12
def VU (T:List Bool):Int:=if xZ T then kN T else 0
def VT (T:List Bool):Int:=if xZ T then kM T else 0
def Mc (T:List Bool):List Int:=if xZ T then jh T else []
def Md (T:List Bool):List (Int×Int):=if xZ T then n_ T else []
theorem GN (s:ByteArray):∀x∈bA s,x<256:=by
 intro x hx;simp only [bA,List.mem_map] at hx;obtain ⟨b,_,rfl⟩:=hx;exact UInt8.toNat_lt b
theorem MA {l:List Bool} (h:bv l=0):l=List.replicate l.length false:=(Bt.iB l).1 h
/- The text is what would be written. -/
theorem Yd (s:ByteArray):(!(s6 (tb (bA s))).2&&dn (tb (bA s)) (s6 (tb (bA s))).1)=decide (tx (pk (aA (rF (tb (bA s)))))=s):=by
 obtain ⟨T,hT⟩:∃T,tb (bA s)=T:=⟨_,rfl⟩;have Gj:T.length=8 * s.size:=by rw [←hT,bT,a8]
 rw [hT,Bool.eq_iff_iff,Bool.and_eq_true,Bool.not_eq_true',decide_eq_true_eq];constructor
 ·rintro ⟨h1,h2⟩;have ha:=VS h1;have hc:(s6 T).1=(aA (rF T)).length:=by rw [ha.1]
  rw [hc] at h2;simp only [dn,Bool.and_eq_true,decide_eq_true_eq] at h2;have hz:=MA h2.2
  have Mh:T=aA (rF T)++List.replicate (T.length - (aA (rF T)).length) false:=by
   conv=>lhs;rw [←List.take_append_drop (aA (rF T)).length T,ha.2]
   conv=>lhs;rw [hz,List.length_drop]
  have hle:=ha.le
  have hp:pk T=pk (aA (rF T)):=by
   conv=>lhs;rw [Mh]
   exact FB _ _ (by omega)
  rw [←hp,←hT,Ic _ (GN s),ET]
 ·intro h
  have hb:bA s=pk (aA (rF T)):=by
   conv=>lhs;rw [←h]
   exact Bd _ (yQ _)
  have Mh:=Ho (aA (rF T));rw [←hb,hT] at Mh
  have hle:(aA (rF T)).length≤T.length:=by
   have:=congrArg List.length Mh;rw [List.length_append] at this;omega
  have h1:=Ts hle;have ha:=VS h1;refine ⟨h1,?_⟩;have hc:(s6 T).1=(aA (rF T)).length:=by rw [ha.1]
  rw [hc];clear hc ha h1 hle hb h;generalize aA (rF T)=l at *
  have hd:T.drop l.length=List.replicate (8 * ((l.length+7)/8) - l.length) false:=by
   rw [Mh];exact List.drop_left' rfl
  have hl:T.length - l.length<8:=by
   have:=congrArg List.length Mh;rw [List.length_append,List.length_replicate] at this;omega
  simp only [dn,Bool.and_eq_true,decide_eq_true_eq];exact ⟨hl,by rw [hd];exact (Bt.iB _).2 (by simp)⟩
/- The document's Read: right, and written so. -/
theorem TP (s:ByteArray):xZ (tb (bA s))=(fw (kN (tb (bA s))) (kM (tb (bA s))) (jh (tb (bA s))) (n_ (tb (bA s)))&&decide (t_ (kN (tb (bA s))) (kM (tb (bA s))) (jh (tb (bA s))) (n_ (tb (bA s)))=s)):=by
 unfold xZ;rw [Yd,Bool.and_comm]
 cases hr:fw (kN (tb (bA s))) (kM (tb (bA s))) (jh (tb (bA s))) (n_ (tb (bA s))) with
 | false=>rfl
 | true=>unfold t_;rw [hr,if_pos rfl];rfl
/- Written and read again. -/
theorem aap (h:fw e f L J=true):tb (bA (t_ e f L J))=aA (dM e f L J)++List.replicate (8 * (((aA (dM e f L J)).length+7)/8) - (aA (dM e f L J)).length) false:=by
 unfold t_;rw [h,if_pos rfl,Bd _ (yQ _),Ho]
theorem SR (h:fw e f L J=true):(t_ e f L J).size=((aA (dM e f L J)).length+7)/8:=by
 unfold t_;rw [h,if_pos rfl,nW,Bt.kO]
theorem aaq (h:fw e f L J=true):xZ (tb (bA (t_ e f L J)))=true∧kN (tb (bA (t_ e f L J)))=e∧kM (tb (bA (t_ e f L J)))=f∧jh (tb (bA (t_ e f L J)))=L∧n_ (tb (bA (t_ e f L J)))=J:=by
 obtain ⟨a,b,c,d,g⟩:=Tt (ie.1 h).fit _ (aap h);refine ⟨?_,a,b,c,d⟩;rw [TP,a,b,c,d,h];simp
open Go.RowKit Go.Maps
open Rs (bM cell_later)
/- A record in a block. -/
variable {w:World} {B k:Nat} {α:Type}
def bh (w:World) (B:Nat) (cs:Array Value):Prop:=w.heap[B]? =some (.cells cs 70 (0,0))
theorem bh.cells {v0 v1 v2 v3:Value} (h:bh w B #[v0,v1,v2,v3]):w.cell? ⟨B,0,none⟩=some v0∧w.cell? ⟨B,1,none⟩=some v1∧w.cell? ⟨B,2,none⟩=some v2∧w.cell? ⟨B,3,none⟩=some v3:=
 ⟨cell_of_row w B 0 _ _ _ h,cell_of_row w B 1 _ _ _ h,cell_of_row w B 2 _ _ _ h,cell_of_row w B 3 _ _ _ h⟩
theorem bh.later {w':World} {cs:Array Value} (h:bh w B cs) (hb:Below w.heap.size w w'):bh w' B cs:=(hb.block B (Array.getElem?_eq_some_iff.1 h).1).trans h
theorem bh.new (w:World) (cs:Array Value):bh (w.alloc (.cells cs 70)) w.heap.size cs:=heap_alloc_last w _
theorem lA {l:List α} (d:α) (h:k<l.length):l.take (k+1)=l.take k++[l.getD k d]:=by
 rw [List.take_succ_eq_append_getElem h,List.getD_eq_getElem?_getD,List.getElem?_eq_getElem h];rfl
theorem lX {p:α→Bool} {l:List α} (d:α) (h:k<l.length) (h1:∀x∈l.take k,p x=true) (h2:p (l.getD k d)=true):∀x∈l.take (k+1),p x=true:=fun x hx=>by
 rw [lA d h] at hx;rcases List.mem_append.1 hx with hx | hx
 ·exact h1 x hx
 ·simp only [List.mem_cons,List.not_mem_nil,or_false] at hx;rw [hx];exact h2
theorem eJ {l:List α} (d:α) (h:k<l.length):l.getD k d∈l:=by
 rw [List.getD_eq_getElem?_getD,List.getElem?_eq_getElem h];exact List.getElem_mem h
theorem gX (n:Int) (w:World):Calls prog 158 #[.int .i64 n] w fun e w'=>e=.returned (.bool (who n))∧w'=w:=by
 by_cases h0:0≤n
 ·by_cases h1:n<256
  ·go_enter func158,ntmps158;go_wp2
   go_ret;exact ⟨ae (by simp [who,h0,h1]),rfl⟩
  ·go_enter func158,ntmps158;go_wp2
   go_ret;exact ⟨ae (by simp [who,h0,h1]),rfl⟩
 ·go_enter func158,ntmps158;go_wp2
  go_ret;exact ⟨ae (by simp [who];omega),rfl⟩
theorem F3 (a b:Int) (w:World):Calls prog 159 #[.agg #[.int .i64 a,.int .i64 b]] w fun e w'=>e=.returned (.bool (pU (a,b)))∧Below w.heap.size w w':=by
 have hW:=gX a
 cases hw:who a with
 | false=>
  rw [hw] at hW;have HE:Hid (pU (a,b)=false):=by unfold Hid pU;rw [hw];rfl
  clear hw;go_enter func159,ntmps159;go_wp2_with (go_at_call 158;refine (hW _).mono ?_;rintro r w' ⟨rfl,rfl⟩)
  go_ret;exact ⟨ae HE.out.symm,aa _ _⟩
 | true=>
  rw [hw] at hW;have HE:Hid (pU (a,b)=(decide (0≤b)&&decide (b<64))):=by unfold Hid pU;rw [hw];rfl
  clear hw;by_cases h0:0≤b
  ·by_cases h1:b<64
   ·go_enter func159,ntmps159;go_wp2_with (go_at_call 158;refine (hW _).mono ?_;rintro r w' ⟨rfl,rfl⟩)
    go_ret;exact ⟨ae (by rw [HE.out];simp [h0,h1]),aa _ _⟩
   ·have d1:decide (b<64)=false:=by simp;omega
    go_enter func159,ntmps159;go_wp2_with (go_at_call 158;refine (hW _).mono ?_;rintro r w' ⟨rfl,rfl⟩)
    go_ret;exact ⟨ae (by rw [HE.out];simp [h0,h1]),aa _ _⟩
  ·have d1:decide (0≤b)=false:=by simp;omega
   go_enter func159,ntmps159;go_wp2_with (go_at_call 158;refine (hW _).mono ?_;rintro r w' ⟨rfl,rfl⟩)
   go_ret;exact ⟨ae (by rw [HE.out,d1];rfl),aa _ _⟩
theorem Nw {e f:Int} {L:List Int} {J:List (Int×Int)} (h:¬W6 e f L J):fw e f L J=false:=by
 rw [Bool.eq_false_iff];exact fun h'=>h (ie.1 h')
set_option maxRecDepth 100000 in
set_option maxHeartbeats 2000000 in
theorem eG (e f:Int) (aL aJ:Option Addr) (cL cJ:Nat) (L:List Int) (J:List (Int×Int)) (w:World) (rL:bM w aL L) (rJ:oQ w aJ J):
  Calls prog 109 #[.agg #[.int .i64 e,.int .i64 f,.slice aL L.length cL,.slice aJ J.length cJ]] w fun r w'=>r=.returned (.bool (fw e f L J))∧Below w.heap.size w w':=by
 have hB:=aa w (.cells #[.int .i64 e,.int .i64 f,.slice aL L.length cL,.slice aJ J.length cJ] 70);have jV:Hid (¬W6 e f L J→fw e f L J=false):=Nw;by_cases g1:e<1
 ·have HE:Hid (fw e f L J=false):=jV.out fun h=>by have:=h.e1;omega
  go_enter func109,ntmps109;go_wp2_with fail
  go_ret;exact ⟨ae HE.out.symm,hB⟩
 by_cases g2:200<e
 ·have HE:Hid (fw e f L J=false):=jV.out fun h=>by have:=h.e2;omega
  have d1:decide (e<1)=false:=by simp;omega
  go_enter func109,ntmps109;go_wp2_with fail
  go_ret;exact ⟨ae HE.out.symm,hB⟩
 have d1:decide (e<1)=false:=by simp;omega
 have d2:decide (200<e)=false:=by simp;omega
 by_cases g3:f<22
 ·have HE:Hid (fw e f L J=false):=jV.out fun h=>by have:=h.f1;omega
  clear g1 g2;go_enter func109,ntmps109;go_wp2_with fail
  go_ret;exact ⟨ae HE.out.symm,hB⟩
 have d3:decide (f<22)=false:=by simp;omega
 by_cases g4:32768<f
 ·have HE:Hid (fw e f L J=false):=jV.out fun h=>by have:=h.f2;omega
  clear g1 g2 g3;go_enter func109,ntmps109;go_wp2_with fail
  go_ret;exact ⟨ae HE.out.symm,hB⟩
 have d4:decide (32768<f)=false:=by simp;omega
 by_cases g5:64<L.length
 ·have HE:Hid (fw e f L J=false):=jV.out fun h=>by have:=h.l1;omega
  have d5:decide ((64:Int)<(L.length:Int))=true:=by simp;omega
  have d6:(64:Int)<(L.length:Int):=by omega
  clear g1 g2 g3 g4;generalize L.length=nL at *;go_enter func109,ntmps109;go_wp2_with fail
  go_ret;exact ⟨ae HE.out.symm,hB⟩
 have d5:decide ((64:Int)<(L.length:Int))=false:=by simp;omega
 have d5':decide (64<L.length)=false:=by simp;omega
 by_cases g6:64<J.length
 ·have HE:Hid (fw e f L J=false):=jV.out fun h=>by have:=h.j1;omega
  have d6:(64:Int)<(J.length:Int):=by omega
  clear g1 g2 g3 g4 g5;generalize L.length=nL at *;generalize J.length=nJ at *;go_enter func109,ntmps109;go_wp2_with fail
  go_ret;exact ⟨ae HE.out.symm,hB⟩
 have d6:decide ((64:Int)<(J.length:Int))=false:=by simp;omega
 have d6':decide (64<J.length)=false:=by simp;omega
 have HY:Hid ((∀x∈L,who x=true)→(∀p∈J,pU p=true)→fw e f L J=true):=fun h1 h2=>ie.2 ⟨by omega,by omega,by omega,by omega,by omega,by omega,h1,h2⟩
 have pZ:Hid (∀k,k<L.length→who (L.getD k 0)=false→fw e f L J=false):=fun k hk h=>jV.out fun hr=>by rw [hr.lw _ (eJ 0 hk)] at h;cases h
 have lu:Hid (∀k,k<J.length→pU (J.getD k (0,0))=false→fw e f L J=false):=fun k hk h=>jV.out fun hr=>by rw [hr.js _ (eJ (0,0) hk)] at h;cases h
 have Y3:=bh.new w #[.int .i64 e,.int .i64 f,.slice aL L.length cL,.slice aJ J.length cJ];have FM:L.length≤64:=by omega
 have acC:J.length≤64:=by omega
 clear g1 g2 g3 g4 g5 g6 jV;go_enter func109,ntmps109;go_wp2_with fail
 go_loopw [38] (fun i wr=>∃k:Nat,k≤L.length∧i=.int .i64 (k:Int)∧(∀x∈L.take k,who x=true)∧wr=w.alloc (.cells #[.int .i64 e,.int .i64 f,.slice aL L.length cL,.slice aJ J.length cJ] 70)) (fun i _=>L.length - (intOf i).toNat)
 case atStart=>exact ⟨0,by omega,rfl,by simp,rfl⟩
 case round=>
  obtain ⟨k,hk,rfl,lS,rfl⟩:=hrel;have iN:Hid (∀x∈L.take k,who x=true):=lS;clear lS;by_cases cE:k<L.length
  ·obtain ⟨b,o,rfl,c0⟩:=rL k cE;have c1:=cell_later hB c0;have i1:(0:Int)≤(k:Int):=by omega
   have i2:(k:Int)<(L.length:Int):=by omega
   have HN:=pZ.out k cE;have HS:Hid (who (L.getD k 0)=true→∀x∈L.take (k+1),who x=true):=fun h=>lX 0 cE iN.out h
   generalize L.getD k 0=x at *;have hW:=gX x;have hlt:k<L.length:=cE;have rB:Hid (k<L.length):=hlt;have aac:Hid (L.length≤64):=FM
   cases hx:who x with
   | false=>
    rw [hx] at hW;have HE:Hid (fw e f L J=false):=HN hx;clear HN hx c0 rL rJ hlt cE;generalize L.length=nL at *;generalize J.length=nJ at *;generalize w.alloc (.cells #[.int .i64 e,.int .i64 f,.slice (some ⟨b,o,none⟩) nL cL,.slice aJ nJ cJ] 70)=w0 at *;go_wp2_with (go_at_call 158;refine (hW _).mono ?_;rintro r w' ⟨rfl,rfl⟩)
    go_ret;exact ⟨ae HE.out.symm,hB⟩
   | true=>
    rw [hx] at hW;have eW:Hid (∀x∈L.take (k+1),who x=true):=HS.out hx;clear HN hx c0 rL rJ hlt cE HS pZ lu HY iN;clear hB Y3;go_wp2_with (go_at_call 158;refine (hW _).mono ?_;rintro r w' ⟨rfl,rfl⟩)
    go_roundw
    case rel=>exact ⟨k+1,by have:=rB.out;omega,by go_num,eW.out,by first | rfl | trivial⟩
    case measure=>simp [intOf];have:=rB.out;omega
  ·have iX:decide ((k:Int)<(L.length:Int))=false:=by simp;omega
   have HLA:Hid (∀x∈L,who x=true):=by
    have e:L.take k=L:=List.take_of_length_le (by omega);have:=iN.out;rw [e] at this;exact this
   obtain ⟨r0,r1,r2,r3⟩:=Y3.cells;have Su:=rJ.later hB;have B1:Hid (Below w.heap.size w (w.alloc (.cells #[.int .i64 e,.int .i64 f,.slice aL L.length cL,.slice aJ J.length cJ] 70))):=hB;have aac:Hid (L.length≤64):=FM;clear rL rJ Y3 hB pZ iN d5' FM;generalize w.alloc (.cells #[.int .i64 e,.int .i64 f,.slice aL L.length cL,.slice aJ J.length cJ] 70)=w0 at *;obtain ⟨B,hBq⟩:∃B,w.heap.size=B:=⟨_,rfl⟩;rw [hBq] at r0 r1 r2 r3 ⊢;clear hBq;generalize L.length=nL at *;go_wp2_with fail
   go_loopw [49] (fun i wr=>∃k:Nat,k≤J.length∧i=.int .i64 (k:Int)∧(∀x∈J.take k,pU x=true)∧Below w0.heap.size w0 wr) (fun i _=>J.length - (intOf i).toNat)
   case atStart=>exact ⟨0,by omega,rfl,by simp,Below.refl _ _⟩
   case round=>
    obtain ⟨k,hk,rfl,lS,hb⟩:=hrel;have iN:Hid (∀x∈J.take k,pU x=true):=lS;have HB:Hid (Below w0.heap.size w0 wr):=hb;clear lS;by_cases cE:k<J.length
    ·obtain ⟨b,o,rfl,c0,c1⟩:=Su k cE;have c0:=cell_later hb c0;have c1:=cell_later hb c1;have i1:(0:Int)≤(k:Int):=by omega
     have i2:(k:Int)<(J.length:Int):=by omega
     have HN:=lu.out k cE;have HS:Hid (pU (J.getD k (0,0))=true→∀x∈J.take (k+1),pU x=true):=fun h=>lX (0,0) cE iN.out h
     have rB:Hid (k<J.length):=cE;generalize J.getD k (0,0)=x at *;obtain ⟨x1,x2⟩:=x;dsimp only at c0 c1;have hW:=F3 x1 x2
     cases hx:pU (x1,x2) with
     | false=>
      rw [hx] at hW;have HE:Hid (fw e f L J=false):=HN hx;clear HN hx Su cE hb r0 r1 r2 r3 HS lu HY;go_wp2_with (go_at_call 159;refine (hW _).mono ?_;rintro r w' ⟨rfl,hb'⟩)
      go_ret;exact ⟨ae HE.out.symm,B1.out.trans (((HB.out.alloc HB.out.size _).trans (hb'.mono (by have:=HB.out.size;simp;omega))).mono B1.out.size)⟩
     | true=>
      rw [hx] at hW;have eW:Hid (∀x∈J.take (k+1),pU x=true):=HS.out hx;clear HN hx Su cE hb r0 r1 r2 r3 HS lu HY iN;go_wp2_with (go_at_call 159;refine (hW _).mono ?_;rintro r w' ⟨rfl,hb'⟩)
      go_roundw
      case rel=>exact ⟨k+1,by have:=rB.out;omega,by go_num,eW.out,(HB.out.alloc HB.out.size _).trans (hb'.mono (by have:=HB.out.size;simp;omega))⟩
      case measure=>simp [intOf];have:=rB.out;omega
    ·have iX:decide ((k:Int)<(J.length:Int))=false:=by simp;omega
     have HE:Hid (fw e f L J=true):=HY.out HLA.out (by
      have e:J.take k=J:=List.take_of_length_le (by omega);have:=iN.out;rw [e] at this
      exact this)
     go_wp2_with fail
     go_ret;exact ⟨ae HE.out.symm,B1.out.trans (HB.out.mono B1.out.size)⟩
end Go.Proofs.YtanaapfobpgibaaGreatDoor.Rc
