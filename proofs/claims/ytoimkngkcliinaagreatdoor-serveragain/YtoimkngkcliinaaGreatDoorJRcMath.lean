/- RcMath, RcA, joined. -/
import Derived.Test.YtoimkngkcliinaaGreatDoorJBitDone
import Derived.Test.YtoimkngkcliinaaGreatDoorJPlD
import Derived.Test.YtoimkngkcliinaaGreatDoorJTrMath
namespace Go.Proofs.YtoimkngkcliinaaGreatDoor.Rc
open Go.RowKit
open Bt (bv bo bo_length bv_lt bv_bo bo_bv tb tb_length tb_append pk pk_tb tb_pk pk_pad pk_lt tx bys bys_tx tx_bys bys_length tx_size dn bitsF okF bitsF_append pkS pkE)
set_option linter.unusedVariables false
set_option maxRecDepth 4000
set_option linter.unusedSimpArgs false
def who (x:Int):Bool:=decide (0≤x)&&decide (x<256)
def sea (p:Int×Int):Bool:=who p.1&&(decide (0≤p.2)&&decide (p.2<64))
theorem who_iff {x:Int}:who x=true↔0≤x∧x<256:=by simp [who]
theorem sea_iff {p:Int×Int}:sea p=true↔(0≤p.1∧p.1<256)∧0≤p.2∧p.2<64:=by simp [sea,who]
structure Rgt (e f:Int) (L:List Int) (J:List (Int×Int)):Prop where
 e1:1≤e
 e2:e≤200
 f1:22≤f
 f2:f≤32768
 l1:L.length≤64
 j1:J.length≤64
 lw:∀x∈L,who x=true
 js:∀p∈J,sea p=true
def rgt (e f:Int) (L:List Int) (J:List (Int×Int)):Bool:=
 (decide (1≤e)&&decide (e≤200)&&decide (22≤f)&&decide (f≤32768))&&(decide (L.length≤64)&&decide (J.length≤64))&&(L.all who&&J.all sea)
theorem rgt_iff {e f:Int} {L:List Int} {J:List (Int×Int)}:rgt e f L J=true↔Rgt e f L J:=by
 unfold rgt;simp only [Bool.and_eq_true,decide_eq_true_eq,List.all_eq_true];exact ⟨fun ⟨⟨⟨⟨⟨a,b⟩,c⟩,d⟩,g,h⟩,i,j⟩=>⟨a,b,c,d,g,h,i,j⟩,fun h=>⟨⟨⟨⟨⟨h.e1,h.e2⟩,h.f1⟩,h.f2⟩,h.l1,h.j1⟩,h.lw,h.js⟩⟩
/- A record's fields. -/
def fL (L:List Int):List (Nat×Int):=L.map fun x=>(x.toNat,8)
def fJ (J:List (Int×Int)):List (Nat×Int):=J.flatMap fun p=>[(p.1.toNat,8),(p.2.toNat,6)]
def flds (e f:Int) (L:List Int) (J:List (Int×Int)):List (Nat×Int):=[(e.toNat,8),(f.toNat,16),(L.length,7)]++fL L++[(J.length,7)]++fJ J
theorem fL_snoc (L:List Int) (x:Int):fL (L++[x])=fL L++[(x.toNat,8)]:=by simp [fL]
theorem fJ_snoc (J:List (Int×Int)) (p:Int×Int):fJ (J++[p])=fJ J++[(p.1.toNat,8),(p.2.toNat,6)]:=by simp [fJ]
@[simp] theorem fL_length (L:List Int):(fL L).length=L.length:=by simp [fL]
@[simp] theorem fJ_length (J:List (Int×Int)):(fJ J).length=2 * J.length:=by
 induction J with
 | nil=>rfl
 | cons p J ih=>
  show ([(p.1.toNat,(8:Int)),(p.2.toNat,6)]++fJ J).length=_
  rw [List.length_append,ih];simp;omega
theorem flds_length (e f:Int) (L:List Int) (J:List (Int×Int)):(flds e f L J).length=4+L.length+2 * J.length:=by simp [flds];omega
/- Numbers that fit their widths. -/
structure Fit (e f:Int) (L:List Int) (J:List (Int×Int)):Prop where
 e1:0≤e
 e2:e<256
 f1:0≤f
 f2:f<65536
 l1:L.length<128
 j1:J.length<128
 lw:∀x∈L,who x=true
 js:∀p∈J,sea p=true
theorem Rgt.fit {e f:Int} {L:List Int} {J:List (Int×Int)} (h:Rgt e f L J):Fit e f L J:=by
 obtain ⟨a,b,c,d,e,f,g,i⟩:=h;exact ⟨by omega,by omega,by omega,by omega,by omega,by omega,g,i⟩
theorem Fit.ok {e f:Int} {L:List Int} {J:List (Int×Int)} (h:Fit e f L J):∀x∈flds e f L J,okF x=true:=by
 obtain ⟨a,b,c,d,l1,j1,g,i⟩:=h;intro x hx;simp only [flds,fL,fJ,List.mem_append,List.mem_cons,List.mem_map,List.mem_flatMap,List.not_mem_nil,or_false] at hx
 have key:∀(v:Nat) (n:Nat),1≤n→n≤64→v<2^n→okF (v,(n:Int))=true:=fun v n h1 h2 h3=>by
  unfold okF Bt.gw;simp;exact ⟨⟨by omega,by omega⟩,h3⟩
 rcases hx with (((rfl | rfl | rfl) | ⟨y,hy,rfl⟩) | rfl) | ⟨p,hp,rfl | rfl⟩
 ·exact key e.toNat 8 (by omega) (by omega) (by omega)
 ·exact key f.toNat 16 (by omega) (by omega) (by omega)
 ·exact key _ 7 (by omega) (by omega) (by omega)
 ·have:=who_iff.1 (g y hy);exact key y.toNat 8 (by omega) (by omega) (by omega)
 ·exact key _ 7 (by omega) (by omega) (by omega)
 ·have:=sea_iff.1 (i p hp);exact key p.1.toNat 8 (by omega) (by omega) (by omega)
 ·have:=sea_iff.1 (i p hp);exact key p.2.toNat 6 (by omega) (by omega) (by omega)
theorem Fit.all {e f:Int} {L:List Int} {J:List (Int×Int)} (h:Fit e f L J):(flds e f L J).all okF=true:=List.all_eq_true.2 h.ok
theorem bits_fL (L:List Int):(bitsF (fL L)).length=8 * L.length:=by
 induction L with
 | nil=>rfl
 | cons x L ih=>
  show (bo x.toNat 8++bitsF (fL L)).length=_
  rw [List.length_append,ih];simp;omega
theorem bits_fJ (J:List (Int×Int)):(bitsF (fJ J)).length=14 * J.length:=by
 induction J with
 | nil=>rfl
 | cons p J ih=>
  show (bo p.1.toNat 8++(bo p.2.toNat 6++bitsF (fJ J))).length=_
  rw [List.length_append,List.length_append,ih];simp;omega
theorem bits_flds (e f:Int) (L:List Int) (J:List (Int×Int)):(bitsF (flds e f L J)).length=38+8 * L.length+14 * J.length:=by
 unfold flds;rw [bitsF_append,bitsF_append,bitsF_append,List.length_append,List.length_append,List.length_append,bits_fL,bits_fJ];have h1:(bitsF [(e.toNat,8),(f.toNat,16),(L.length,7)]).length=31:=by simp [bitsF]
 have h2:(bitsF [(J.length,(7:Int))]).length=7:=by simp [bitsF]
 omega
/- What is written. -/
def wrS (e f:Int) (L:List Int) (J:List (Int×Int)):ByteArray:=if rgt e f L J then tx (pk (bitsF (flds e f L J))) else tx []
def wrE (e f:Int) (L:List Int) (J:List (Int×Int)):Int:=if rgt e f L J then 0 else 12
theorem wr_pk {e f:Int} {L:List Int} {J:List (Int×Int)} (h:rgt e f L J=true):pkS (flds e f L J)=wrS e f L J∧pkE (flds e f L J)=0:=by
 have:=(rgt_iff.1 h).fit.all;simp [pkS,pkE,wrS,h,this]
/- One number taken: its value, the place behind it, whether one lacked. -/
def nm1 (T:List Bool) (p:Nat×Bool) (w:Nat):Nat×(Nat×Bool):=if p.1+w≤T.length then (bv ((T.drop p.1).take w),(p.1+w,p.2)) else (0,(p.1,true))
def nsS (T:List Bool) (w:Nat) (p:Nat×Bool):Nat→Nat×Bool
 | 0=>p
 | n+1=>(nm1 T (nsS T w p n) w).2
def nsL (T:List Bool) (w:Nat) (p:Nat×Bool):Nat→List Nat
 | 0=>[]
 | n+1=>nsL T w p n++[(nm1 T (nsS T w p n) w).1]
def psS (T:List Bool) (p:Nat×Bool):Nat→Nat×Bool
 | 0=>p
 | n+1=>(nm1 T (nm1 T (psS T p n) 8).2 6).2
def psL (T:List Bool) (p:Nat×Bool):Nat→List (Nat×Nat)
 | 0=>[]
 | n+1=>psL T p n++[((nm1 T (psS T p n) 8).1,(nm1 T (nm1 T (psS T p n) 8).2 6).1)]
@[simp] theorem nsL_length (T:List Bool) (w:Nat) (p:Nat×Bool) (n:Nat):(nsL T w p n).length=n:=by
 induction n with
 | zero=>rfl
 | succ n ih=>simp [nsL,ih]
@[simp] theorem psL_length (T:List Bool) (p:Nat×Bool) (n:Nat):(psL T p n).length=n:=by
 induction n with
 | zero=>rfl
 | succ n ih=>simp [psL,ih]
theorem nm1_lt (T:List Bool) (p:Nat×Bool) (w:Nat):(nm1 T p w).1<2^w:=by
 unfold nm1;split
 ·refine Nat.lt_of_lt_of_le (bv_lt _) (Nat.pow_le_pow_right (by decide) ?_);simp;omega
 ·exact Nat.two_pow_pos w
theorem nm1_no {T:List Bool} {p:Nat×Bool} {w:Nat} (h:(nm1 T p w).2.2=false):p.2=false∧p.1+w≤T.length∧nm1 T p w=(bv ((T.drop p.1).take w),(p.1+w,false)):=by
 unfold nm1 at h ⊢;split at h
 ·rename_i hc
  rw [if_pos hc];have h':p.2=false:=h;exact ⟨h',hc,by rw [h']⟩
 ·cases h
theorem nm1_yes {T:List Bool} {c w:Nat} (h:c+w≤T.length):nm1 T (c,false) w=(bv ((T.drop c).take w),(c+w,false)):=by unfold nm1;rw [if_pos h]
theorem nsS_no {T:List Bool} {p:Nat×Bool} {w:Nat}:∀{n:Nat},(nsS T w p n).2=false→p.2=false
 | 0,h=>h
 | n+1,h=>nsS_no (nm1_no h).1
theorem psS_no {T:List Bool} {p:Nat×Bool}:∀{n:Nat},(psS T p n).2=false→p.2=false
 | 0,h=>h
 | n+1,h=>psS_no (nm1_no (nm1_no h).1).1
/- The fields l stand at the beginning, and the place is behind them. -/
def At (T:List Bool) (l:List (Nat×Int)) (p:Nat×Bool):Prop:=p=((bitsF l).length,false)∧T.take (bitsF l).length=bitsF l
theorem At.le {T:List Bool} {l:List (Nat×Int)} {p:Nat×Bool} (h:At T l p):(bitsF l).length≤T.length:=by
 have:=congrArg List.length h.2;rw [List.length_take] at this;omega
theorem At.nil (T:List Bool):At T [] (0,false):=⟨rfl,rfl⟩
theorem At.step {T:List Bool} {l:List (Nat×Int)} {p:Nat×Bool} (h:At T l p) {w:Nat} (hn:(nm1 T p w).2.2=false):At T (l++[((nm1 T p w).1,(w:Int))]) (nm1 T p w).2:=by
 obtain ⟨h1,h2⟩:=h;obtain ⟨n1,n2,n3⟩:=nm1_no hn;rw [n3];have hp:p.1=(bitsF l).length:=by rw [h1]
 have hl:((T.drop p.1).take w).length=w:=by simp;omega
 have hb:bitsF [(bv ((T.drop p.1).take w),(w:Int))]=(T.drop p.1).take w:=by
  show bo _ (w:Int).toNat++[]=_
  rw [List.append_nil,Int.toNat_natCast];have:=bo_bv ((T.drop p.1).take w);rw [hl] at this;exact this
 refine ⟨?_,?_⟩
 ·dsimp only;rw [bitsF_append,hb,List.length_append,hl,hp]
 ·dsimp only;rw [bitsF_append,hb,List.length_append,hl,List.take_add,h2,hp]
theorem At.steps {T:List Bool} {l:List (Nat×Int)} {p:Nat×Bool} (h:At T l p) {w:Nat}:∀{n:Nat},(nsS T w p n).2=false→At T (l++(nsL T w p n).map fun v=>(v,(w:Int))) (nsS T w p n)
 | 0,_=>by simpa [nsL,nsS] using h
 | n+1,hn=>by
  have:=(h.steps (n:=n) (nm1_no hn).1).step hn
  simpa [nsL,nsS] using this
theorem At.pairs {T:List Bool} {l:List (Nat×Int)} {p:Nat×Bool} (h:At T l p):∀{n:Nat},(psS T p n).2=false→At T (l++(psL T p n).flatMap fun q=>[(q.1,(8:Int)),(q.2,(6:Int))]) (psS T p n)
 | 0,_=>by simpa [psL,psS] using h
 | n+1,hn=>by
  have h2:=(nm1_no hn).1;have:=((h.pairs (n:=n) (nm1_no h2).1).step h2).step hn
  simpa [psL,psS] using this
/- A whole record taken. -/
def e1 (T:List Bool):=nm1 T (0,false) 8
def e2 (T:List Bool):=nm1 T (e1 T).2 16
def e3 (T:List Bool):=nm1 T (e2 T).2 7
def s4 (T:List Bool):=nsS T 8 (e3 T).2 (e3 T).1
def e5 (T:List Bool):=nm1 T (s4 T) 7
def s6 (T:List Bool):=psS T (e5 T).2 (e5 T).1
def rEp (T:List Bool):Int:=((e1 T).1:Int)
def rFr (T:List Bool):Int:=((e2 T).1:Int)
def inI (l:List Nat):List Int:=l.map fun n:Nat=>(n:Int)
def inP (l:List (Nat×Nat)):List (Int×Int):=l.map fun q:Nat×Nat=>((q.1:Int),(q.2:Int))
def rLv (T:List Bool):List Int:=inI (nsL T 8 (e3 T).2 (e3 T).1)
def rJn (T:List Bool):List (Int×Int):=inP (psL T (e5 T).2 (e5 T).1)
def rF (T:List Bool):List (Nat×Int):=flds (rEp T) (rFr T) (rLv T) (rJn T)
theorem inI_length (l:List Nat):(inI l).length=l.length:=by simp [inI]
theorem inP_length (l:List (Nat×Nat)):(inP l).length=l.length:=by simp [inP]
theorem rLv_length (T:List Bool):(rLv T).length=(e3 T).1:=by simp [rLv,inI]
theorem rJn_length (T:List Bool):(rJn T).length=(e5 T).1:=by simp [rJn,inP]
theorem nsL_lt (T:List Bool) (w:Nat) (p:Nat×Bool):∀(n:Nat) (x:Nat),x∈nsL T w p n→x<2^w
 | 0,x,h=>by cases h
 | n+1,x,h=>by
  rcases List.mem_append.1 h with h | h
  ·exact nsL_lt T w p n x h
  ·simp at h;subst h;exact nm1_lt _ _ _
theorem psL_lt (T:List Bool) (p:Nat×Bool):∀(n:Nat) (x:Nat×Nat),x∈psL T p n→x.1<256∧x.2<64
 | 0,x,h=>by cases h
 | n+1,x,h=>by
  rcases List.mem_append.1 h with h | h
  ·exact psL_lt T p n x h
  ·simp at h;subst h;exact ⟨nm1_lt _ _ 8,nm1_lt _ _ 6⟩
theorem rd_fit (T:List Bool):Fit (rEp T) (rFr T) (rLv T) (rJn T):=by
 have a:=nm1_lt T (0,false) 8;have b:=nm1_lt T (e1 T).2 16;have c:=nm1_lt T (e2 T).2 7;have d:=nm1_lt T (s4 T) 7;refine ⟨by unfold rEp;omega,by unfold rEp e1;omega,by unfold rFr;omega,by unfold rFr e2;omega,by rw [rLv_length];exact c,by rw [rJn_length];exact d,?_,?_⟩
 ·intro x hx;simp only [rLv,inI,List.mem_map] at hx;obtain ⟨n,hn,rfl⟩:=hx;have:=nsL_lt _ _ _ _ _ hn;exact who_iff.2 ⟨by omega,by omega⟩
 ·intro x hx;simp only [rJn,inP,List.mem_map] at hx;obtain ⟨q,hq,rfl⟩:=hx;have:=psL_lt _ _ _ _ hq;exact sea_iff.2 (by dsimp only;omega)
theorem rF_eq (T:List Bool):rF T=[((e1 T).1,8),((e2 T).1,16),((e3 T).1,7)]++(nsL T 8 (e3 T).2 (e3 T).1).map (fun v=>(v,(8:Int)))++[((e5 T).1,7)]++(psL T (e5 T).2 (e5 T).1).flatMap (fun q=>[(q.1,(8:Int)),(q.2,(6:Int))]):=by
 unfold rF flds;rw [rLv_length,rJn_length]
 congr 2
 ·congr 1
  simp [fL,rLv,inI,List.map_map,Function.comp_def]
 ·simp [fJ,rJn,inP,List.flatMap_map]
theorem rd_at {T:List Bool} (h:(s6 T).2=false):At T (rF T) (s6 T):=by
 have h5:=psS_no h;have h4:=(nm1_no h5).1;have h3:=nsS_no h4;have h2:=(nm1_no h3).1;have h1:=(nm1_no h2).1;have a3:=(((At.nil T).step h1).step h2).step h3;have a4:=a3.steps (w:=8) (n:=(e3 T).1) h4;have a6:=(a4.step h5).pairs (n:=(e5 T).1) h;rw [rF_eq];have e:(([]++[((nm1 T (0,false) 8).1,((8:Nat):Int))]++[((nm1 T (nm1 T (0,false) 8).2 16).1,((16:Nat):Int))]++[((nm1 T (nm1 T (nm1 T (0,false) 8).2 16).2 7).1,((7:Nat):Int))]:List (Nat×Int)))=[((e1 T).1,8),((e2 T).1,16),((e3 T).1,7)]:=rfl;rw [e] at a6;exact a6
theorem nsS_yes {T:List Bool} {c w:Nat}:∀{n:Nat},c+w * n≤T.length→nsS T w (c,false) n=(c+w * n,false)
 | 0,_=>rfl
 | n+1,h=>by
  rw [Nat.mul_succ] at h ⊢;rw [nsS,nsS_yes (n:=n) (by omega),nm1_yes (by omega)];dsimp only;rw [Nat.add_assoc]
theorem psS_yes {T:List Bool} {c:Nat}:∀{n:Nat},c+14 * n≤T.length→psS T (c,false) n=(c+14 * n,false)
 | 0,_=>rfl
 | n+1,h=>by
  rw [psS,psS_yes (n:=n) (by omega),nm1_yes (by omega),nm1_yes (by omega)]
  congr 1
theorem rd_long {T:List Bool} (h:(bitsF (rF T)).length≤T.length):(s6 T).2=false:=by
 unfold rF at h;rw [bits_flds,rLv_length,rJn_length] at h;have h1:(e1 T).2=(8,false):=by unfold e1;rw [nm1_yes (by omega)]
 have h2:(e2 T).2=(24,false):=by unfold e2;rw [h1,nm1_yes (by omega)]
 have h3:(e3 T).2=(31,false):=by unfold e3;rw [h2,nm1_yes (by omega)]
 have h4:s4 T=(31+8 * (e3 T).1,false):=by unfold s4;rw [h3,nsS_yes (by omega)]
 have h5:(e5 T).2=(31+8 * (e3 T).1+7,false):=by unfold e5;rw [h4,nm1_yes (by omega)]
 unfold s6;rw [h5,psS_yes (by omega)]
/- What was written is read. -/
theorem nm1_back {A Z:List Bool} {v w:Nat} (hv:v<2^w):nm1 (A++(bo v w++Z)) (A.length,false) w=(v,(A.length+w,false)):=by
 rw [nm1_yes (by simp)]
 have:((A++(bo v w++Z)).drop A.length).take w=bo v w:=by
  rw [List.drop_left' rfl,List.take_left' (by simp)]
 rw [this,bv_bo,Nat.mod_eq_of_lt hv]
theorem nm1_back' {A Z T:List Bool} {v w c:Nat} (hT:T=A++(bo v w++Z)) (hc:c=A.length) (hv:v<2^w):nm1 T (c,false) w=(v,(c+w,false)):=by subst hT hc;exact nm1_back hv
theorem ns_back {A Z T:List Bool} {L:List Int} {c:Nat} (hT:T=A++(bitsF (fL L)++Z)) (hc:c=A.length) (hL:∀x∈L,who x=true):∀k,k≤L.length→nsS T 8 (c,false) k=(c+8 * k,false)∧inI (nsL T 8 (c,false) k)=L.take k
 | 0,_=>⟨rfl,rfl⟩
 | k+1,hk=>by
  obtain ⟨h1,h2⟩:=ns_back hT hc hL k (by omega);have hx:=who_iff.1 (hL L[k] (List.getElem_mem (by omega)));have e:L=L.take k++(L[k]::L.drop (k+1)):=by rw [List.getElem_cons_drop];simp
  have hf:bitsF (fL L)=bitsF (fL (L.take k))++(bo L[k].toNat 8++bitsF (fL (L.drop (k+1)))):=by
   conv=>lhs;rw [e]
   unfold fL;rw [List.map_append,bitsF_append];rfl
  have hn:=nm1_back' (T:=T) (A:=A++bitsF (fL (L.take k))) (Z:=bitsF (fL (L.drop (k+1)))++Z) (v:=L[k].toNat) (w:=8) (c:=c+8 * k) (by rw [hT,hf];simp) (by rw [List.length_append,bits_fL,List.length_take,Nat.min_eq_left (by omega),hc]) (by omega);refine ⟨?_,?_⟩
  ·rw [nsS,h1,hn];congr 1
  ·rw [nsL,h1,hn,List.take_succ_eq_append_getElem (by omega),←h2];simp [inI];omega
theorem ps_back {A Z T:List Bool} {J:List (Int×Int)} {c:Nat} (hT:T=A++(bitsF (fJ J)++Z)) (hc:c=A.length) (hJ:∀x∈J,sea x=true):∀k,k≤J.length→psS T (c,false) k=(c+14 * k,false)∧inP (psL T (c,false) k)=J.take k
 | 0,_=>⟨rfl,rfl⟩
 | k+1,hk=>by
  obtain ⟨h1,h2⟩:=ps_back hT hc hJ k (by omega);have hx:=sea_iff.1 (hJ J[k] (List.getElem_mem (by omega)));have e:J=J.take k++(J[k]::J.drop (k+1)):=by rw [List.getElem_cons_drop];simp
  have hf:bitsF (fJ J)=bitsF (fJ (J.take k))++(bo J[k].1.toNat 8++(bo J[k].2.toNat 6++bitsF (fJ (J.drop (k+1))))):=by
   conv=>lhs;rw [e]
   unfold fJ;rw [List.flatMap_append,bitsF_append];rfl
  have hl:(bitsF (fJ (J.take k))).length=14 * k:=by rw [bits_fJ,List.length_take,Nat.min_eq_left (by omega)]
  have hn:=nm1_back' (T:=T) (A:=A++bitsF (fJ (J.take k))) (Z:=bo J[k].2.toNat 6++(bitsF (fJ (J.drop (k+1)))++Z)) (v:=J[k].1.toNat) (w:=8) (c:=c+14 * k) (by rw [hT,hf];simp) (by rw [List.length_append,hl,hc]) (by omega);have hm:=nm1_back' (T:=T) (A:=A++bitsF (fJ (J.take k))++bo J[k].1.toNat 8) (Z:=bitsF (fJ (J.drop (k+1)))++Z) (v:=J[k].2.toNat) (w:=6) (c:=c+14 * k+8) (by rw [hT,hf];simp) (by rw [List.length_append,List.length_append,hl,hc];simp) (by omega);refine ⟨?_,?_⟩
  ·rw [psS,h1,hn];dsimp only;rw [hm];congr 1
  ·rw [psL,h1,hn];dsimp only;rw [hm,List.take_succ_eq_append_getElem (by omega),←h2];have a:((J[k].1.toNat:Nat):Int)=J[k].1:=by omega
   have b:((J[k].2.toNat:Nat):Int)=J[k].2:=by omega
   simp only [inP,List.map_append,List.map_cons,List.map_nil,a,b]
theorem rd_back {e f:Int} {L:List Int} {J:List (Int×Int)} (h:Fit e f L J) (Z:List Bool) {T:List Bool} (hT:T=bitsF (flds e f L J)++Z):
  rEp T=e∧rFr T=f∧rLv T=L∧rJn T=J∧s6 T=((bitsF (flds e f L J)).length,false):=by
 have hsp:bitsF (flds e f L J)=bo e.toNat 8++(bo f.toNat 16++(bo L.length 7++(bitsF (fL L)++(bo J.length 7++bitsF (fJ J))))):=by
  simp [flds,bitsF]
 rw [hsp] at hT
 have h1:e1 T=(e.toNat,(8,false)):=by
  unfold e1;exact nm1_back' (A:=[]) (Z:=bo f.toNat 16++(bo L.length 7++(bitsF (fL L)++(bo J.length 7++(bitsF (fJ J)++Z))))) (by rw [hT];simp) rfl (by have:=h.e2;omega)
 have h2:e2 T=(f.toNat,(24,false)):=by
  unfold e2;rw [h1];exact nm1_back' (A:=bo e.toNat 8) (Z:=bo L.length 7++(bitsF (fL L)++(bo J.length 7++(bitsF (fJ J)++Z)))) (by rw [hT];simp) (by simp) (by have:=h.f2;omega)
 have h3:e3 T=(L.length,(31,false)):=by
  unfold e3;rw [h2];exact nm1_back' (A:=bo e.toNat 8++bo f.toNat 16) (Z:=bitsF (fL L)++(bo J.length 7++(bitsF (fJ J)++Z))) (by rw [hT];simp) (by simp) (by have:=h.l1;omega)
 obtain ⟨h4,h4'⟩:=ns_back (A:=bo e.toNat 8++bo f.toNat 16++bo L.length 7) (Z:=bo J.length 7++(bitsF (fJ J)++Z)) (T:=T) (L:=L) (c:=31) (by rw [hT];simp) (by simp) h.lw L.length (Nat.le_refl _)
 have h5:e5 T=(J.length,(31+8 * L.length+7,false)):=by
  unfold e5 s4;rw [h3,h4];exact nm1_back' (A:=bo e.toNat 8++bo f.toNat 16++bo L.length 7++bitsF (fL L)) (Z:=bitsF (fJ J)++Z) (by rw [hT];simp) (by simp only [List.length_append,bo_length,bits_fL]) (by have:=h.j1;omega)
 obtain ⟨h6,h6'⟩:=ps_back (A:=bo e.toNat 8++bo f.toNat 16++bo L.length 7++bitsF (fL L)++bo J.length 7) (Z:=Z) (T:=T) (J:=J) (c:=31+8 * L.length+7) (by rw [hT];simp) (by simp only [List.length_append,bo_length,bits_fL]) h.js J.length (Nat.le_refl _);refine ⟨?_,?_,?_,?_,?_⟩
 ·unfold rEp;rw [h1];have:=h.e1;omega
 ·unfold rFr;rw [h2];have:=h.f1;omega
 ·unfold rLv;rw [h3,h4',List.take_length]
 ·unfold rJn;rw [h5,h6',List.take_length]
 ·unfold s6;rw [h5,h6,bits_flds]
  congr 1;omega
/- What Read answers. -/
def okR (T:List Bool):Bool:=(!(s6 T).2&&dn T (s6 T).1)&&rgt (rEp T) (rFr T) (rLv T) (rJn T)
def rdE (T:List Bool):Int:=if okR T then 0 else 12
def qEp (T:List Bool):Int:=if okR T then rEp T else 0
def qFr (T:List Bool):Int:=if okR T then rFr T else 0
def qLv (T:List Bool):List Int:=if okR T then rLv T else []
def qJn (T:List Bool):List (Int×Int):=if okR T then rJn T else []
theorem bys_lt (s:ByteArray):∀x∈bys s,x<256:=by
 intro x hx;simp only [bys,List.mem_map] at hx;obtain ⟨b,_,rfl⟩:=hx;exact UInt8.toNat_lt b
theorem zeros_of {l:List Bool} (h:bv l=0):l=List.replicate l.length false:=(Bt.bv_zero_iff l).1 h
/- The text is what would be written. -/
theorem ok_doc (s:ByteArray):(!(s6 (tb (bys s))).2&&dn (tb (bys s)) (s6 (tb (bys s))).1)=decide (tx (pk (bitsF (rF (tb (bys s)))))=s):=by
 obtain ⟨T,hT⟩:∃T,tb (bys s)=T:=⟨_,rfl⟩;have hTl:T.length=8 * s.size:=by rw [←hT,tb_length,bys_length]
 rw [hT,Bool.eq_iff_iff,Bool.and_eq_true,Bool.not_eq_true',decide_eq_true_eq];constructor
 ·rintro ⟨h1,h2⟩;have ha:=rd_at h1;have hc:(s6 T).1=(bitsF (rF T)).length:=by rw [ha.1]
  rw [hc] at h2;simp only [dn,Bool.and_eq_true,decide_eq_true_eq] at h2;have hz:=zeros_of h2.2
  have hTT:T=bitsF (rF T)++List.replicate (T.length - (bitsF (rF T)).length) false:=by
   conv=>lhs;rw [←List.take_append_drop (bitsF (rF T)).length T,ha.2]
   conv=>lhs;rw [hz,List.length_drop]
  have hle:=ha.le
  have hp:pk T=pk (bitsF (rF T)):=by
   conv=>lhs;rw [hTT]
   exact pk_pad _ _ (by omega)
  rw [←hp,←hT,pk_tb _ (bys_lt s),tx_bys]
 ·intro h
  have hb:bys s=pk (bitsF (rF T)):=by
   conv=>lhs;rw [←h]
   exact bys_tx _ (pk_lt _)
  have hTT:=tb_pk (bitsF (rF T));rw [←hb,hT] at hTT
  have hle:(bitsF (rF T)).length≤T.length:=by
   have:=congrArg List.length hTT;rw [List.length_append] at this;omega
  have h1:=rd_long hle;have ha:=rd_at h1;refine ⟨h1,?_⟩;have hc:(s6 T).1=(bitsF (rF T)).length:=by rw [ha.1]
  rw [hc];clear hc ha h1 hle hb h;generalize bitsF (rF T)=l at *
  have hd:T.drop l.length=List.replicate (8 * ((l.length+7)/8) - l.length) false:=by
   rw [hTT];exact List.drop_left' rfl
  have hl:T.length - l.length<8:=by
   have:=congrArg List.length hTT;rw [List.length_append,List.length_replicate] at this;omega
  simp only [dn,Bool.and_eq_true,decide_eq_true_eq];exact ⟨hl,by rw [hd];exact (Bt.bv_zero_iff _).2 (by simp)⟩
/- The document's Read: right, and written so. -/
theorem okR_doc (s:ByteArray):okR (tb (bys s))=(rgt (rEp (tb (bys s))) (rFr (tb (bys s))) (rLv (tb (bys s))) (rJn (tb (bys s)))&&decide (wrS (rEp (tb (bys s))) (rFr (tb (bys s))) (rLv (tb (bys s))) (rJn (tb (bys s)))=s)):=by
 unfold okR;rw [ok_doc,Bool.and_comm]
 cases hr:rgt (rEp (tb (bys s))) (rFr (tb (bys s))) (rLv (tb (bys s))) (rJn (tb (bys s))) with
 | false=>rfl
 | true=>unfold wrS;rw [hr,if_pos rfl];rfl
/- Written and read again. -/
theorem wr_tb {e f:Int} {L:List Int} {J:List (Int×Int)} (h:rgt e f L J=true):tb (bys (wrS e f L J))=bitsF (flds e f L J)++List.replicate (8 * (((bitsF (flds e f L J)).length+7)/8) - (bitsF (flds e f L J)).length) false:=by
 unfold wrS;rw [h,if_pos rfl,bys_tx _ (pk_lt _),tb_pk]
theorem wr_size {e f:Int} {L:List Int} {J:List (Int×Int)} (h:rgt e f L J=true):(wrS e f L J).size=((bitsF (flds e f L J)).length+7)/8:=by
 unfold wrS;rw [h,if_pos rfl,tx_size,Bt.pk_length]
theorem wr_rd {e f:Int} {L:List Int} {J:List (Int×Int)} (h:rgt e f L J=true):okR (tb (bys (wrS e f L J)))=true∧rEp (tb (bys (wrS e f L J)))=e∧rFr (tb (bys (wrS e f L J)))=f∧rLv (tb (bys (wrS e f L J)))=L∧rJn (tb (bys (wrS e f L J)))=J:=by
 obtain ⟨a,b,c,d,g⟩:=rd_back (rgt_iff.1 h).fit _ (wr_tb h);refine ⟨?_,a,b,c,d⟩;rw [okR_doc,a,b,c,d,h];simp
open Go.RowKit Go.Maps
open Rs (RdI cell_later)
/- A record in a block. -/
def RcAt (w:World) (B:Nat) (cs:Array Value):Prop:=w.heap[B]? =some (.cells cs 94 (0,0))
theorem RcAt.cells {w:World} {B:Nat} {v0 v1 v2 v3:Value} (h:RcAt w B #[v0,v1,v2,v3]):w.cell? ⟨B,0,none⟩=some v0∧w.cell? ⟨B,1,none⟩=some v1∧w.cell? ⟨B,2,none⟩=some v2∧w.cell? ⟨B,3,none⟩=some v3:=
 ⟨cell_of_row w B 0 _ _ _ h,cell_of_row w B 1 _ _ _ h,cell_of_row w B 2 _ _ _ h,cell_of_row w B 3 _ _ _ h⟩
theorem RcAt.later {w w':World} {B:Nat} {cs:Array Value} (h:RcAt w B cs) (hb:Below w.heap.size w w'):RcAt w' B cs:=(hb.block B (Array.getElem?_eq_some_iff.1 h).1).trans h
theorem RcAt.new (w:World) (cs:Array Value):RcAt (w.alloc (.cells cs 94)) w.heap.size cs:=heap_alloc_last w _
theorem take_nx {α:Type} {l:List α} {k:Nat} (d:α) (h:k<l.length):l.take (k+1)=l.take k++[l.getD k d]:=by
 rw [List.take_succ_eq_append_getElem h,List.getD_eq_getElem?_getD,List.getElem?_eq_getElem h];rfl
theorem all_nx {α:Type} {p:α→Bool} {l:List α} {k:Nat} (d:α) (h:k<l.length) (h1:∀x∈l.take k,p x=true) (h2:p (l.getD k d)=true):∀x∈l.take (k+1),p x=true:=fun x hx=>by
 rw [take_nx d h] at hx;rcases List.mem_append.1 hx with hx | hx
 ·exact h1 x hx
 ·simp only [List.mem_cons,List.not_mem_nil,or_false] at hx;rw [hx];exact h2
theorem getD_mem' {α:Type} {l:List α} {k:Nat} (d:α) (h:k<l.length):l.getD k d∈l:=by
 rw [List.getD_eq_getElem?_getD,List.getElem?_eq_getElem h];exact List.getElem_mem h
theorem isWho_any (n:Int) (w:World):Calls Tryz.prog 262 #[.int .i64 n] w fun e w'=>e=.returned (.bool (who n))∧w'=w:=by
 by_cases h0:0≤n
 ·by_cases h1:n<256
  ·go_enter Tryz.func262,Tryz.ntmps262;go_wp2
   go_ret;exact ⟨ret_bool (by simp [who,h0,h1]),rfl⟩
  ·go_enter Tryz.func262,Tryz.ntmps262;go_wp2
   go_ret;exact ⟨ret_bool (by simp [who,h0,h1]),rfl⟩
 ·go_enter Tryz.func262,Tryz.ntmps262;go_wp2
  go_ret;exact ⟨ret_bool (by simp [who];omega),rfl⟩
theorem isSeat_any (a b:Int) (w:World):Calls Tryz.prog 263 #[.agg #[.int .i64 a,.int .i64 b]] w fun e w'=>e=.returned (.bool (sea (a,b)))∧Below w.heap.size w w':=by
 have hW:=isWho_any a
 cases hw:who a with
 | false=>
  rw [hw] at hW;have HE:Hid (sea (a,b)=false):=by unfold Hid sea;rw [hw];rfl
  clear hw;go_enter Tryz.func263,Tryz.ntmps263;go_wp2_with (go_at_call 262;refine (hW _).mono ?_;rintro r w' ⟨rfl,rfl⟩)
  go_ret;exact ⟨ret_bool HE.out.symm,below_alloc _ _⟩
 | true=>
  rw [hw] at hW;have HE:Hid (sea (a,b)=(decide (0≤b)&&decide (b<64))):=by unfold Hid sea;rw [hw];rfl
  clear hw;by_cases h0:0≤b
  ·by_cases h1:b<64
   ·go_enter Tryz.func263,Tryz.ntmps263;go_wp2_with (go_at_call 262;refine (hW _).mono ?_;rintro r w' ⟨rfl,rfl⟩)
    go_ret;exact ⟨ret_bool (by rw [HE.out];simp [h0,h1]),below_alloc _ _⟩
   ·have d1:decide (b<64)=false:=by simp;omega
    go_enter Tryz.func263,Tryz.ntmps263;go_wp2_with (go_at_call 262;refine (hW _).mono ?_;rintro r w' ⟨rfl,rfl⟩)
    go_ret;exact ⟨ret_bool (by rw [HE.out];simp [h0,h1]),below_alloc _ _⟩
  ·have d1:decide (0≤b)=false:=by simp;omega
   go_enter Tryz.func263,Tryz.ntmps263;go_wp2_with (go_at_call 262;refine (hW _).mono ?_;rintro r w' ⟨rfl,rfl⟩)
   go_ret;exact ⟨ret_bool (by rw [HE.out,d1];rfl),below_alloc _ _⟩
theorem rgt_no {e f:Int} {L:List Int} {J:List (Int×Int)} (h:¬Rgt e f L J):rgt e f L J=false:=by
 rw [Bool.eq_false_iff];exact fun h'=>h (rgt_iff.1 h')
set_option maxRecDepth 100000 in
set_option maxHeartbeats 2000000 in
theorem right_any (e f:Int) (aL aJ:Option Addr) (cL cJ:Nat) (L:List Int) (J:List (Int×Int)) (w:World) (rL:RdI w aL L) (rJ:RdP w aJ J):
  Calls Tryz.prog 195 #[.agg #[.int .i64 e,.int .i64 f,.slice aL L.length cL,.slice aJ J.length cJ]] w fun r w'=>r=.returned (.bool (rgt e f L J))∧Below w.heap.size w w':=by
 have hB:=below_alloc w (.cells #[.int .i64 e,.int .i64 f,.slice aL L.length cL,.slice aJ J.length cJ] 94);have HNO:Hid (¬Rgt e f L J→rgt e f L J=false):=rgt_no;by_cases g1:e<1
 ·have HE:Hid (rgt e f L J=false):=HNO.out fun h=>by have:=h.e1;omega
  go_enter Tryz.func195,Tryz.ntmps195;go_wp2_with fail
  go_ret;exact ⟨ret_bool HE.out.symm,hB⟩
 by_cases g2:200<e
 ·have HE:Hid (rgt e f L J=false):=HNO.out fun h=>by have:=h.e2;omega
  have d1:decide (e<1)=false:=by simp;omega
  go_enter Tryz.func195,Tryz.ntmps195;go_wp2_with fail
  go_ret;exact ⟨ret_bool HE.out.symm,hB⟩
 have d1:decide (e<1)=false:=by simp;omega
 have d2:decide (200<e)=false:=by simp;omega
 by_cases g3:f<22
 ·have HE:Hid (rgt e f L J=false):=HNO.out fun h=>by have:=h.f1;omega
  clear g1 g2;go_enter Tryz.func195,Tryz.ntmps195;go_wp2_with fail
  go_ret;exact ⟨ret_bool HE.out.symm,hB⟩
 have d3:decide (f<22)=false:=by simp;omega
 by_cases g4:32768<f
 ·have HE:Hid (rgt e f L J=false):=HNO.out fun h=>by have:=h.f2;omega
  clear g1 g2 g3;go_enter Tryz.func195,Tryz.ntmps195;go_wp2_with fail
  go_ret;exact ⟨ret_bool HE.out.symm,hB⟩
 have d4:decide (32768<f)=false:=by simp;omega
 by_cases g5:64<L.length
 ·have HE:Hid (rgt e f L J=false):=HNO.out fun h=>by have:=h.l1;omega
  have d5:decide ((64:Int)<(L.length:Int))=true:=by simp;omega
  have d6:(64:Int)<(L.length:Int):=by omega
  clear g1 g2 g3 g4;generalize L.length=nL at *;go_enter Tryz.func195,Tryz.ntmps195;go_wp2_with fail
  go_ret;exact ⟨ret_bool HE.out.symm,hB⟩
 have d5:decide ((64:Int)<(L.length:Int))=false:=by simp;omega
 have d5':decide (64<L.length)=false:=by simp;omega
 by_cases g6:64<J.length
 ·have HE:Hid (rgt e f L J=false):=HNO.out fun h=>by have:=h.j1;omega
  have d6:(64:Int)<(J.length:Int):=by omega
  clear g1 g2 g3 g4 g5;generalize L.length=nL at *;generalize J.length=nJ at *;go_enter Tryz.func195,Tryz.ntmps195;go_wp2_with fail
  go_ret;exact ⟨ret_bool HE.out.symm,hB⟩
 have d6:decide ((64:Int)<(J.length:Int))=false:=by simp;omega
 have d6':decide (64<J.length)=false:=by simp;omega
 have HY:Hid ((∀x∈L,who x=true)→(∀p∈J,sea p=true)→rgt e f L J=true):=fun h1 h2=>rgt_iff.2 ⟨by omega,by omega,by omega,by omega,by omega,by omega,h1,h2⟩
 have HNL:Hid (∀k,k<L.length→who (L.getD k 0)=false→rgt e f L J=false):=fun k hk h=>HNO.out fun hr=>by rw [hr.lw _ (getD_mem' 0 hk)] at h;cases h
 have HNJ:Hid (∀k,k<J.length→sea (J.getD k (0,0))=false→rgt e f L J=false):=fun k hk h=>HNO.out fun hr=>by rw [hr.js _ (getD_mem' (0,0) hk)] at h;cases h
 have hRC:=RcAt.new w #[.int .i64 e,.int .i64 f,.slice aL L.length cL,.slice aJ J.length cJ];have nL64:L.length≤64:=by omega
 have nJ64:J.length≤64:=by omega
 clear g1 g2 g3 g4 g5 g6 HNO;go_enter Tryz.func195,Tryz.ntmps195;go_wp2_with fail
 go_loopw [38] (fun i wr=>∃k:Nat,k≤L.length∧i=.int .i64 (k:Int)∧(∀x∈L.take k,who x=true)∧wr=w.alloc (.cells #[.int .i64 e,.int .i64 f,.slice aL L.length cL,.slice aJ J.length cJ] 94)) (fun i _=>L.length - (intOf i).toNat)
 case atStart=>exact ⟨0,by omega,rfl,by simp,rfl⟩
 case round=>
  obtain ⟨k,hk,rfl,hok,rfl⟩:=hrel;have HOK:Hid (∀x∈L.take k,who x=true):=hok;clear hok;by_cases hkn:k<L.length
  ·obtain ⟨b,o,rfl,c0⟩:=rL k hkn;have c1:=cell_later hB c0;have i1:(0:Int)≤(k:Int):=by omega
   have i2:(k:Int)<(L.length:Int):=by omega
   have HN:=HNL.out k hkn;have HS:Hid (who (L.getD k 0)=true→∀x∈L.take (k+1),who x=true):=fun h=>all_nx 0 hkn HOK.out h
   generalize L.getD k 0=x at *;have hW:=isWho_any x;have hlt:k<L.length:=hkn;have HLT:Hid (k<L.length):=hlt;have HL64:Hid (L.length≤64):=nL64
   cases hx:who x with
   | false=>
    rw [hx] at hW;have HE:Hid (rgt e f L J=false):=HN hx;clear HN hx c0 rL rJ hlt hkn;generalize L.length=nL at *;generalize J.length=nJ at *;generalize w.alloc (.cells #[.int .i64 e,.int .i64 f,.slice (some ⟨b,o,none⟩) nL cL,.slice aJ nJ cJ] 94)=w0 at *;go_wp2_with (go_at_call 262;refine (hW _).mono ?_;rintro r w' ⟨rfl,rfl⟩)
    go_ret;exact ⟨ret_bool HE.out.symm,hB⟩
   | true=>
    rw [hx] at hW;have HS2:Hid (∀x∈L.take (k+1),who x=true):=HS.out hx;clear HN hx c0 rL rJ hlt hkn HS HNL HNJ HY HOK;clear hB hRC;go_wp2_with (go_at_call 262;refine (hW _).mono ?_;rintro r w' ⟨rfl,rfl⟩)
    go_roundw
    case rel=>exact ⟨k+1,by have:=HLT.out;omega,by go_num,HS2.out,by first | rfl | trivial⟩
    case measure=>simp [intOf];have:=HLT.out;omega
  ·have hkn':decide ((k:Int)<(L.length:Int))=false:=by simp;omega
   have HLA:Hid (∀x∈L,who x=true):=by
    have e:L.take k=L:=List.take_of_length_le (by omega);have:=HOK.out;rw [e] at this;exact this
   obtain ⟨r0,r1,r2,r3⟩:=hRC.cells;have hRJ:=rJ.later hB;have HB0:Hid (Below w.heap.size w (w.alloc (.cells #[.int .i64 e,.int .i64 f,.slice aL L.length cL,.slice aJ J.length cJ] 94))):=hB;have HL64:Hid (L.length≤64):=nL64;clear rL rJ hRC hB HNL HOK d5' nL64;generalize w.alloc (.cells #[.int .i64 e,.int .i64 f,.slice aL L.length cL,.slice aJ J.length cJ] 94)=w0 at *;obtain ⟨B,hBq⟩:∃B,w.heap.size=B:=⟨_,rfl⟩;rw [hBq] at r0 r1 r2 r3 ⊢;clear hBq;generalize L.length=nL at *;go_wp2_with fail
   go_loopw [49] (fun i wr=>∃k:Nat,k≤J.length∧i=.int .i64 (k:Int)∧(∀x∈J.take k,sea x=true)∧Below w0.heap.size w0 wr) (fun i _=>J.length - (intOf i).toNat)
   case atStart=>exact ⟨0,by omega,rfl,by simp,Below.refl _ _⟩
   case round=>
    obtain ⟨k,hk,rfl,hok,hb⟩:=hrel;have HOK:Hid (∀x∈J.take k,sea x=true):=hok;have HB:Hid (Below w0.heap.size w0 wr):=hb;clear hok;by_cases hkn:k<J.length
    ·obtain ⟨b,o,rfl,c0,c1⟩:=hRJ k hkn;have c0:=cell_later hb c0;have c1:=cell_later hb c1;have i1:(0:Int)≤(k:Int):=by omega
     have i2:(k:Int)<(J.length:Int):=by omega
     have HN:=HNJ.out k hkn;have HS:Hid (sea (J.getD k (0,0))=true→∀x∈J.take (k+1),sea x=true):=fun h=>all_nx (0,0) hkn HOK.out h
     have HLT:Hid (k<J.length):=hkn;generalize J.getD k (0,0)=x at *;obtain ⟨x1,x2⟩:=x;dsimp only at c0 c1;have hW:=isSeat_any x1 x2
     cases hx:sea (x1,x2) with
     | false=>
      rw [hx] at hW;have HE:Hid (rgt e f L J=false):=HN hx;clear HN hx hRJ hkn hb r0 r1 r2 r3 HS HNJ HY;go_wp2_with (go_at_call 263;refine (hW _).mono ?_;rintro r w' ⟨rfl,hb'⟩)
      go_ret;exact ⟨ret_bool HE.out.symm,HB0.out.trans (((HB.out.alloc HB.out.size _).trans (hb'.mono (by have:=HB.out.size;simp;omega))).mono HB0.out.size)⟩
     | true=>
      rw [hx] at hW;have HS2:Hid (∀x∈J.take (k+1),sea x=true):=HS.out hx;clear HN hx hRJ hkn hb r0 r1 r2 r3 HS HNJ HY HOK;go_wp2_with (go_at_call 263;refine (hW _).mono ?_;rintro r w' ⟨rfl,hb'⟩)
      go_roundw
      case rel=>exact ⟨k+1,by have:=HLT.out;omega,by go_num,HS2.out,(HB.out.alloc HB.out.size _).trans (hb'.mono (by have:=HB.out.size;simp;omega))⟩
      case measure=>simp [intOf];have:=HLT.out;omega
    ·have hkn':decide ((k:Int)<(J.length:Int))=false:=by simp;omega
     have HE:Hid (rgt e f L J=true):=HY.out HLA.out (by
      have e:J.take k=J:=List.take_of_length_le (by omega);have:=HOK.out;rw [e] at this
      exact this)
     go_wp2_with fail
     go_ret;exact ⟨ret_bool HE.out.symm,HB0.out.trans (HB.out.mono HB0.out.size)⟩
end Go.Proofs.YtoimkngkcliinaaGreatDoor.Rc
