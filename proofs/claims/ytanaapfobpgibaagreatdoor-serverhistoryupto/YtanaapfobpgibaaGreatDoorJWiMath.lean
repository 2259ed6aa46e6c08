/- WiMath, WiMath2, WiT, WiA, joined. -/
import Derived.Test.YtanaapfobpgibaaGreatDoorJBitDone
import Derived.Test.YtanaapfobpgibaaGreatDoorJKeyMath
import Derived.Test.YtanaapfobpgibaaGreatDoorJShpMath
import Derived.Laws.AppendOwnNone
open Go.Proofs.Tryz
namespace Go.Proofs.YtanaapfobpgibaaGreatDoor.Wi
open Go.RowKit
open Bt (bv bo a_ ma kq Rh nG GQ eN tb bT nY pk Ic Ho FB yQ kO tx bA Bd ET a8 nW dn aA okF aM ua ub)
open Rt (gd)
open Sh (bc)
set_option linter.unusedVariables false
set_option maxRecDepth 4000
set_option linter.unusedSimpArgs false
/- One number. -/
def pn (q:Nat) (T:List Bool) (c:Nat):Option (Nat×Nat):=if c+q≤T.length then some (bv ((T.drop c).take q),c+q) else none
/- So many of a kind. -/
def pl {α:Type} (d:List Bool→Nat→Option (α×Nat)) (T:List Bool) (c:Nat):Nat→Option (List α×Nat)
 | 0=>some ([],c)
 | n+1=>match pl d T c n with
  | none=>none
  | some (l,c1)=>match d T c1 with
   | none=>none
   | some (x,c2)=>some (l++[x],c2)
section
variable {α:Type} {d:List Bool→Nat→Option (α×Nat)} {T:List Bool} {c c1 c2 n:Nat} {x:α} {l:List α}
theorem LB (f:α→List Bool) (l:List α) (x:α):(l++[x]).flatMap f=l.flatMap f++f x:=by simp
/- A list behind its length. -/
def pc (q:Nat) (d:List Bool→Nat→Option (α×Nat)) (T:List Bool) (c:Nat):Option (List α×Nat):=
 match pn q T c with
 | none=>none
 | some (n,c1)=>pl d T c1 n
end
/- Numbers, seats, keys, boxes, items, texts. -/
def gC (q:Nat) (v:Int):Prop:=0≤v∧v<2^q
def eS (s:Int×Int):List Bool:=bo s.1.toNat 8++bo s.2.toNat 6
def eK (k:Int×Int):List Bool:=bo k.1.toNat 16++bo k.2.toNat 8
def gK (k:Int×Int):Bool:=gd k.1 k.2
theorem Ql {k:Int×Int}:gK k=true↔(1≤k.1∧k.1≤65535)∧0≤k.2∧k.2≤255:=by
 simp [gK,gd,and_assoc]
theorem O8 (b s:Nat) (h:s<256):bo (b * 256+s) 24=bo b 16++bo s 8:=by
 have h1:=nG (b * 256+s) 16 8;have e:(b * 256+s)/2^8=b:=by omega
 rw [e] at h1;have e2:(b * 256+s)%2^8=s:=by omega
 rw [h1,←GQ (b * 256+s) 8,e2]
def eB (b:(Int×Int)×(Int×Int)):List Bool:=eK b.1++eK b.2
def gB (b:(Int×Int)×(Int×Int)):Bool:=gK b.1&&gK b.2
def eI (i:(Int×Int)×((Int×Int)×(Int×Int))):List Bool:=(bo i.1.1.toNat 5++bo i.1.2.toNat 7)++eB i.2
def eX (s:ByteArray):List Bool:=bo s.size 7++tb (bA s)
theorem GN (s:ByteArray):∀x∈bA s,x<256:=by
 intro x hx;simp only [bA,List.mem_map] at hx;obtain ⟨b,_,rfl⟩:=hx;exact UInt8.toNat_lt b
variable {e v:Int} {s:Int×Int} {b:(Int×Int)×(Int×Int)} {i:(Int×Int)×((Int×Int)×(Int×Int))} {q:Nat}
structure lZ where
 kd:Int
 rk:Int×(List (Int×Int)×(List (Int×Int)×List ((Int×Int)×((Int×Int)×(Int×Int)))))
 rq:Int×Int
 rp:(Int×Int)×(Int×(((Int×Int)×(Int×Int))×(((Int×Int)×(Int×Int))×((Int×Int)×(Int×Int)))))
 sd:Int×((Int×Int)×ByteArray)
def zR:Int×(List (Int×Int)×(List (Int×Int)×List ((Int×Int)×((Int×Int)×(Int×Int))))):=(0,[],[],[])
def zQ:Int×Int:=(0,0)
def zP:(Int×Int)×(Int×(((Int×Int)×(Int×Int))×(((Int×Int)×(Int×Int))×((Int×Int)×(Int×Int))))):=((0,0),0,((0,0),(0,0)),((0,0),(0,0)),((0,0),(0,0)))
def zD:Int×((Int×Int)×ByteArray):=(0,(0,0),tx [])
def mR (r:Int×(List (Int×Int)×(List (Int×Int)×List ((Int×Int)×((Int×Int)×(Int×Int)))))):lZ:=⟨1,r,zQ,zP,zD⟩
def mQ (q:Int×Int):lZ:=⟨2,zR,q,zP,zD⟩
def mP (p:(Int×Int)×(Int×(((Int×Int)×(Int×Int))×(((Int×Int)×(Int×Int))×((Int×Int)×(Int×Int)))))):lZ:=⟨3,zR,zQ,p,zD⟩
def mD (d:Int×((Int×Int)×ByteArray)):lZ:=⟨4,zR,zQ,zP,d⟩
/- Right ones. -/
def gE (e:Int):Bool:=decide (1≤e)&&decide (e≤200)
def gW (x:Int):Bool:=decide (0≤x)&&decide (x<256)
def gS (s:Int×Int):Bool:=gW s.1&&(decide (0≤s.2)&&decide (s.2<64))
def A8 (v w:Int):Bool:=bc v w&&decide (w≠v)
def gI (i:(Int×Int)×((Int×Int)×(Int×Int))):Bool:=(decide (0≤i.1.1)&&decide (i.1.1<21))&&(A8 i.1.1 i.1.2&&gB i.2)
def gR (r:Int×(List (Int×Int)×(List (Int×Int)×List ((Int×Int)×((Int×Int)×(Int×Int)))))):Bool:=
 gE r.1&&((decide (r.2.1.length≤64)&&r.2.1.all gS)&&((decide (r.2.2.1.length≤64)&&r.2.2.1.all gS)&&(decide (r.2.2.2.length≤1536)&&r.2.2.2.all gI)))
def gQ (q:Int×Int):Bool:=gW q.1&&gE q.2
def gP (p:(Int×Int)×(Int×(((Int×Int)×(Int×Int))×(((Int×Int)×(Int×Int))×((Int×Int)×(Int×Int)))))):Bool:=gS p.1&&(gE p.2.1&&(gB p.2.2.1&&(gB p.2.2.2.1&&gB p.2.2.2.2)))
def gD (d:Int×((Int×Int)×ByteArray)):Bool:=gE d.1&&(gK d.2.1&&decide (d.2.2.size≤64))
def nR (r:Int×(List (Int×Int)×(List (Int×Int)×List ((Int×Int)×((Int×Int)×(Int×Int)))))):Bool:=decide (r.1=0)&&(decide (r.2.1.length=0)&&(decide (r.2.2.1.length=0)&&decide (r.2.2.2.length=0)))
theorem si {r:Int×(List (Int×Int)×(List (Int×Int)×List ((Int×Int)×((Int×Int)×(Int×Int)))))}:nR r=true↔r=zR:=by
 obtain ⟨e,l,j,i⟩:=r;simp [nR,zR,List.length_eq_zero_iff]
def gM (m:lZ):Bool:=
 if m.kd=1 then gR m.rk&&(decide (m.rq=zQ)&&(decide (m.rp=zP)&&decide (m.sd=zD)))
 else if m.kd=2 then nR m.rk&&(gQ m.rq&&(decide (m.rp=zP)&&decide (m.sd=zD)))
 else if m.kd=3 then nR m.rk&&(decide (m.rq=zQ)&&(gP m.rp&&decide (m.sd=zD)))
 else if m.kd=4 then nR m.rk&&(decide (m.rq=zQ)&&(decide (m.rp=zP)&&gD m.sd))
 else false
theorem Qp:gE e=true↔1≤e∧e≤200:=by simp [gE]
theorem Zc {x:Int}:gW x=true↔0≤x∧x<256:=by simp [gW]
theorem Gs:gS s=true↔(0≤s.1∧s.1<256)∧0≤s.2∧s.2<64:=by simp [gS,gW]
theorem wT:gB b=true↔gK b.1=true∧gK b.2=true:=by simp [gB]
theorem Rx {w:Int} (h:bc v w=true):(0≤v∧v<85)∧0≤w∧w<85:=by
 simp only [bc,Sh.s9,Bool.and_eq_true,decide_eq_true_eq] at h;omega
theorem Qn:gI i=true↔((0≤i.1.1∧i.1.1<21)∧A8 i.1.1 i.1.2=true∧gK i.2.1=true∧gK i.2.2=true):=by simp [gI,gB]
theorem Qo (h:gI i=true):(gC 5 i.1.1∧gC 7 i.1.2)∧(gK i.2.1=true∧gK i.2.2=true):=by
 obtain ⟨⟨h1,h2⟩,h3,h4,h5⟩:=Qn.1 h;simp only [A8,Bool.and_eq_true] at h3;have:=Rx h3.1;exact ⟨⟨⟨h1,by show _<(32:Int);omega⟩,⟨by omega,by show _<(128:Int);omega⟩⟩,h4,h5⟩
theorem Gt (h:gS s=true):gC 8 s.1∧gC 6 s.2:=by
 have:=Gs.1 h;exact ⟨⟨by omega,by show _<(256:Int);omega⟩,⟨by omega,by show _<(64:Int);omega⟩⟩
theorem AX (h:gE e=true):gC 8 e:=by
 have:=Qp.1 h;exact ⟨by omega,by show _<(256:Int);omega⟩
theorem Zd (h:gW e=true):gC 8 e:=by
 have:=Zc.1 h;exact ⟨by omega,by show _<(256:Int);omega⟩
/- The parts' bits. -/
def eL (l:List (Int×Int)):List Bool:=bo l.length 7++l.flatMap eS
def eR (r:Int×(List (Int×Int)×(List (Int×Int)×List ((Int×Int)×((Int×Int)×(Int×Int)))))):List Bool:=bo r.1.toNat 8++(eL r.2.1++(eL r.2.2.1++(bo r.2.2.2.length 11++r.2.2.2.flatMap eI)))
def eQ (q:Int×Int):List Bool:=bo q.1.toNat 8++bo q.2.toNat 8
def eP (p:(Int×Int)×(Int×(((Int×Int)×(Int×Int))×(((Int×Int)×(Int×Int))×((Int×Int)×(Int×Int)))))):List Bool:=eS p.1++(bo p.2.1.toNat 8++(eB p.2.2.1++(eB p.2.2.2.1++eB p.2.2.2.2)))
def eD (d:Int×((Int×Int)×ByteArray)):List Bool:=bo d.1.toNat 8++(eK d.2.1++eX d.2.2)
def xZ (r:Int×(List (Int×Int)×(List (Int×Int)×List ((Int×Int)×((Int×Int)×(Int×Int)))))):Prop:=
 gC 8 r.1∧((r.2.1.length<2^7∧∀x∈r.2.1,gC 8 x.1∧gC 6 x.2)∧((r.2.2.1.length<2^7∧∀x∈r.2.2.1,gC 8 x.1∧gC 6 x.2)∧(r.2.2.2.length<2^11∧∀i∈r.2.2.2,(gC 5 i.1.1∧gC 7 i.1.2)∧(gK i.2.1=true∧gK i.2.2=true))))
def okQ (q:Int×Int):Prop:=gC 8 q.1∧gC 8 q.2
def okP (p:(Int×Int)×(Int×(((Int×Int)×(Int×Int))×(((Int×Int)×(Int×Int))×((Int×Int)×(Int×Int)))))):Prop:=
 (gC 8 p.1.1∧gC 6 p.1.2)∧(gC 8 p.2.1∧((gK p.2.2.1.1=true∧gK p.2.2.1.2=true)∧((gK p.2.2.2.1.1=true∧gK p.2.2.2.1.2=true)∧(gK p.2.2.2.2.1=true∧gK p.2.2.2.2.2=true))))
def okT (d:Int×((Int×Int)×ByteArray)):Prop:=gC 8 d.1∧(gK d.2.1=true∧d.2.2.size<2^7)
/- The message's. -/
def eM (m:lZ):List Bool:=bo (m.kd - 1).toNat 2++(if m.kd=1 then eR m.rk else if m.kd=2 then eQ m.rq else if m.kd=3 then eP m.rp else eD m.sd)
def okM (m:lZ):Prop:=(xZ m.rk∧m=mR m.rk)∨(okQ m.rq∧m=mQ m.rq)∨(okP m.rp∧m=mP m.rp)∨(okT m.sd∧m=mD m.sd)
theorem abB {r:Int×(List (Int×Int)×(List (Int×Int)×List ((Int×Int)×((Int×Int)×(Int×Int)))))} (h:gR r=true):xZ r:=by
 simp only [gR,Bool.and_eq_true,decide_eq_true_eq,List.all_eq_true] at h;obtain ⟨h1,⟨h2,h3⟩,⟨h4,h5⟩,h6,h7⟩:=h;exact ⟨AX h1,⟨by omega,fun x hx=>Gt (h3 x hx)⟩,⟨by omega,fun x hx=>Gt (h5 x hx)⟩,by omega,fun x hx=>Qo (h7 x hx)⟩
theorem wS {m:lZ} (h:gM m=true):(gR m.rk=true∧m=mR m.rk)∨(gQ m.rq=true∧m=mQ m.rq)∨(gP m.rp=true∧m=mP m.rp)∨(gD m.sd=true∧m=mD m.sd):=by
 obtain ⟨k,r,q,p,d⟩:=m;unfold gM at h;try dsimp only at h ⊢
 split at h
 ·rename_i hk
  simp only [Bool.and_eq_true,decide_eq_true_eq,si] at h;obtain ⟨a,rfl,rfl,rfl⟩:=h;exact .inl ⟨a,by rw [hk];rfl⟩
 ·split at h
  ·rename_i hk
   simp only [Bool.and_eq_true,decide_eq_true_eq,si] at h;obtain ⟨rfl,a,rfl,rfl⟩:=h;exact .inr (.inl ⟨a,by rw [hk];rfl⟩)
  ·split at h
   ·rename_i hk
    simp only [Bool.and_eq_true,decide_eq_true_eq,si] at h;obtain ⟨rfl,rfl,a,rfl⟩:=h;exact .inr (.inr (.inl ⟨a,by rw [hk];rfl⟩))
   ·split at h
    ·rename_i hk
     simp only [Bool.and_eq_true,decide_eq_true_eq,si] at h;obtain ⟨rfl,rfl,rfl,a⟩:=h;exact .inr (.inr (.inr ⟨a,by rw [hk];rfl⟩))
    ·cases h
theorem Qk {m:lZ} (h:gM m=true):okM m:=by
 rcases wS h with ⟨a,e⟩ | ⟨a,e⟩ | ⟨a,e⟩ | ⟨a,e⟩
 ·exact .inl ⟨abB a,e⟩
 ·simp only [gQ,Bool.and_eq_true] at a;exact .inr (.inl ⟨⟨Zd a.1,AX a.2⟩,e⟩)
 ·simp only [gP,Bool.and_eq_true] at a;exact .inr (.inr (.inl ⟨⟨Gt a.1,AX a.2.1,wT.1 a.2.2.1,wT.1 a.2.2.2.1,wT.1 a.2.2.2.2⟩,e⟩))
 ·simp only [gD,Bool.and_eq_true,decide_eq_true_eq] at a;exact .inr (.inr (.inr ⟨⟨AX a.1,a.2.1,by omega⟩,e⟩))
/- What is written, what is taken. -/
def EH (m:lZ):ByteArray:=if gM m then tx (pk (eM m)) else tx []
def U4 (m:lZ):Int:=if gM m then 0 else 13
/- A message's fields. -/
def fS (s:Int×Int):List (Nat×Int):=[(s.1.toNat,8),(s.2.toNat,6)]
def fK (k:Int×Int):List (Nat×Int):=[(k.1.toNat,16),(k.2.toNat,8)]
def fB (b:(Int×Int)×(Int×Int)):List (Nat×Int):=fK b.1++fK b.2
def fI (i:(Int×Int)×((Int×Int)×(Int×Int))):List (Nat×Int):=[(i.1.1.toNat,5),(i.1.2.toNat,7)]++fB i.2
def fL (l:List (Int×Int)):List (Nat×Int):=[(l.length,7)]++l.flatMap fS
def fR (r:Int×(List (Int×Int)×(List (Int×Int)×List ((Int×Int)×((Int×Int)×(Int×Int)))))):List (Nat×Int):=[(r.1.toNat,8)]++(fL r.2.1++(fL r.2.2.1++([(r.2.2.2.length,11)]++r.2.2.2.flatMap fI)))
def fQ (q:Int×Int):List (Nat×Int):=[(q.1.toNat,8),(q.2.toNat,8)]
def fP (p:(Int×Int)×(Int×(((Int×Int)×(Int×Int))×(((Int×Int)×(Int×Int))×((Int×Int)×(Int×Int)))))):List (Nat×Int):=fS p.1++([(p.2.1.toNat,8)]++(fB p.2.2.1++(fB p.2.2.2.1++fB p.2.2.2.2)))
def fX (s:ByteArray):List (Nat×Int):=[(s.size,7)]++(bA s).map fun n=>(n,8)
def fD (d:Int×((Int×Int)×ByteArray)):List (Nat×Int):=[(d.1.toNat,8)]++(fK d.2.1++fX d.2.2)
def fM (m:lZ):List (Nat×Int):=[((m.kd - 1).toNat,2)]++(if m.kd=1 then fR m.rk else if m.kd=2 then fQ m.rq else if m.kd=3 then fP m.rp else fD m.sd)
theorem sO {α:Type} (f:α→List (Nat×Int)) (e:α→List Bool) (h:∀x,aA (f x)=e x):∀l:List α,aA (l.flatMap f)=l.flatMap e
 | []=>rfl
 | x::l=>by rw [List.flatMap_cons,List.flatMap_cons,aM,h,sO f e h l]
theorem Rl (s):aA (fS s)=eS s:=by simp [aA,fS,eS]
theorem GU (s):aA (fK s)=eK s:=by simp [aA,fK,eK]
theorem Bj (s):aA (fB s)=eB s:=by unfold fB eB;rw [aM,GU,GU]
theorem ZM (s):aA (fI s)=eI s:=by unfold fI eI;rw [aM,Bj];simp [aA]
theorem Rm (s):aA (fL s)=eL s:=by unfold fL eL;rw [aM,sO fS eS Rl];simp [aA]
theorem ZI (r):aA (fR r)=eR r:=by unfold fR eR;rw [aM,aM,aM,aM,Rm,Rm,sO fI eI ZM];simp [aA]
theorem ZJ (r):aA (fQ r)=eQ r:=by simp [aA,fQ,eQ]
theorem ZK (r):aA (fP r)=eP r:=by unfold fP eP;rw [aM,aM,aM,aM,Rl,Bj,Bj,Bj];simp [aA]
theorem ZH (s):aA (fX s)=eX s:=by
 unfold fX eX;rw [aM];have e:aA ((bA s).map fun n=>(n,(8:Int)))=tb (bA s):=by simp [aA,tb,List.flatMap_map]
 rw [e];simp [aA]
theorem ZN (r):aA (fD r)=eD r:=by unfold fD eD;rw [aM,aM,GU,ZH];simp [aA]
theorem ZL (m:lZ):aA (fM m)=eM m:=by
 unfold fM eM;rw [aM];have e:aA [((m.kd - 1).toNat,(2:Int))]=bo (m.kd - 1).toNat 2:=by simp [aA]
 rw [e]
 congr 1
 split
 ·exact ZI _
 ·split
  ·exact ZJ _
  ·split
   ·exact ZK _
   ·exact ZN _
/- All of them are right. -/
theorem Ap {v:Nat} (h1:1≤q) (h2:q≤64) (h3:v<2^q):okF (v,(q:Int))=true:=by
 unfold okF Bt.gw;simp;exact ⟨⟨by omega,by omega⟩,h3⟩
theorem qi (h1:1≤q) (h2:q≤64) (h:gC q v):okF (v.toNat,(q:Int))=true:=by
 obtain ⟨a,b⟩:=h;refine Ap h1 h2 ?_;have e:((v.toNat:Nat):Int)=v:=Int.toNat_of_nonneg a;have:((v.toNat:Nat):Int)<((2^q:Nat):Int):=by rw [e];simpa using b
 exact Int.ofNat_lt.1 this
theorem RF (h:gC 8 s.1∧gC 6 s.2):∀x∈fS s,okF x=true:=by
 intro x hx;simp only [fS,List.mem_cons,List.not_mem_nil,or_false] at hx;rcases hx with rfl | rfl
 ·exact qi (q:=8) (by decide) (by decide) h.1
 ·exact qi (q:=6) (by decide) (by decide) h.2
theorem RG {k:Int×Int} (h:gK k=true):∀x∈fK k,okF x=true:=by
 have:=Ql.1 h;intro x hx;simp only [fK,List.mem_cons,List.not_mem_nil,or_false] at hx;rcases hx with rfl | rfl
 ·exact qi (q:=16) (by decide) (by decide) ⟨by omega,by show _<(65536:Int);omega⟩
 ·exact qi (q:=8) (by decide) (by decide) ⟨by omega,by show _<(256:Int);omega⟩
theorem cC {a b:List (Nat×Int)} (h1:∀x∈a,okF x=true) (h2:∀x∈b,okF x=true):∀x∈a++b,okF x=true:=by
 intro x hx;rcases List.mem_append.1 hx with h | h
 ·exact h1 x h
 ·exact h2 x h
theorem JM (h:gK b.1=true∧gK b.2=true):∀x∈fB b,okF x=true:=cC (RG h.1) (RG h.2)
theorem kr {v:Nat} (h1:1≤q) (h2:q≤64) (h3:v<2^q):∀x∈[(v,(q:Int))],okF x=true:=by
 intro x hx;simp only [List.mem_cons,List.not_mem_nil,or_false] at hx;subst hx;exact Ap h1 h2 h3
theorem lY (h1:1≤q) (h2:q≤64) (h:gC q v):∀x∈[(v.toNat,(q:Int))],okF x=true:=by
 intro x hx;simp only [List.mem_cons,List.not_mem_nil,or_false] at hx;subst hx;exact qi h1 h2 h
theorem xp {α:Type} {f:α→List (Nat×Int)} {l:List α} (h:∀y∈l,∀x∈f y,okF x=true):∀x∈l.flatMap f,okF x=true:=by
 intro x hx;obtain ⟨y,hy,hx⟩:=List.mem_flatMap.1 hx;exact h y hy x hx
theorem WX {m:lZ} (h:gM m=true):∀x∈fM m,okF x=true:=by
 rcases Qk h with ⟨o,e⟩ | ⟨o,e⟩ | ⟨o,e⟩ | ⟨o,e⟩ <;> rw [e]
 ·refine cC (kr (q:=2) (by decide) (by decide) (by show (_:Nat)<4;first | exact (by decide:(0:Nat)<4) | exact (by decide:(1:Nat)<4) | exact (by decide:(2:Nat)<4) | exact (by decide:(3:Nat)<4))) ?_;obtain ⟨o1,⟨o2,o3⟩,⟨o4,o5⟩,o6,o7⟩:=o;refine cC (lY (q:=8) (by decide) (by decide) o1) (cC (cC (kr (q:=7) (by decide) (by decide) o2) (xp fun y hy=>RF (o3 y hy))) (cC (cC (kr (q:=7) (by decide) (by decide) o4) (xp fun y hy=>RF (o5 y hy))) (cC (kr (q:=11) (by decide) (by decide) o6) (xp fun y hy=>?_))));have h:=o7 y hy;exact cC (cC (lY (q:=5) (by decide) (by decide) h.1.1) (lY (q:=7) (by decide) (by decide) h.1.2)) (JM h.2)
 ·refine cC (kr (q:=2) (by decide) (by decide) (by show (_:Nat)<4;first | exact (by decide:(0:Nat)<4) | exact (by decide:(1:Nat)<4) | exact (by decide:(2:Nat)<4) | exact (by decide:(3:Nat)<4))) ?_;exact cC (lY (q:=8) (by decide) (by decide) o.1) (lY (q:=8) (by decide) (by decide) o.2)
 ·refine cC (kr (q:=2) (by decide) (by decide) (by show (_:Nat)<4;first | exact (by decide:(0:Nat)<4) | exact (by decide:(1:Nat)<4) | exact (by decide:(2:Nat)<4) | exact (by decide:(3:Nat)<4))) ?_;exact cC (RF o.1) (cC (lY (q:=8) (by decide) (by decide) o.2.1) (cC (JM o.2.2.1) (cC (JM o.2.2.2.1) (JM o.2.2.2.2))))
 ·refine cC (kr (q:=2) (by decide) (by decide) (by show (_:Nat)<4;first | exact (by decide:(0:Nat)<4) | exact (by decide:(1:Nat)<4) | exact (by decide:(2:Nat)<4) | exact (by decide:(3:Nat)<4))) ?_;refine cC (lY (q:=8) (by decide) (by decide) o.1) (cC (RG o.2.1) (cC (kr (q:=7) (by decide) (by decide) o.2.2) ?_));intro x hx;obtain ⟨n,hn,rfl⟩:=List.mem_map.1 hx;exact Ap (q:=8) (by decide) (by decide) (GN _ n hn)
theorem wW {α:Type} (f:α→List (Nat×Int)) (k:Nat) (h:∀x,(f x).length=k):∀l:List α,(l.flatMap f).length=k * l.length
 | []=>by simp
 | x::l=>by rw [List.flatMap_cons,List.length_append,h,wW f k h l,List.length_cons,Nat.mul_succ,Nat.add_comm]
theorem Zl {m:lZ} (h:gM m=true):(fM m).length≤16384:=by
 rcases Qk h with ⟨o,e⟩ | ⟨o,e⟩ | ⟨o,e⟩ | ⟨o,e⟩ <;> rw [e]
 ·obtain ⟨o1,⟨o2,o3⟩,⟨o4,o5⟩,o6,o7⟩:=o;show ([(0,2)]++fR m.rk).length≤_
  simp only [fR,fL,List.length_append,List.length_cons,List.length_nil,wW fS 2 (fun _=>rfl),wW fI 6 (fun _=>rfl)];omega
 ·show ([(1,2)]++fQ m.rq).length≤_
  simp [fQ]
 ·show ([(2,2)]++fP m.rp).length≤_
  simp [fP,fS,fB,fK]
 ·obtain ⟨o1,o2,o3⟩:=o;show ([(3,2)]++fD m.sd).length≤_
  simp only [fD,fX,fK,List.length_append,List.length_cons,List.length_nil,List.length_map,a8];omega
theorem WM {m:lZ} (h:gM m=true):ua (fM m)=EH m∧ub (fM m)=0:=by
 have ha:(fM m).all okF=true:=List.all_eq_true.2 (WX h);unfold ua ub EH;rw [ha,h,ZL];exact ⟨rfl,rfl⟩
open Go.RowKit Go.Maps
variable {a:Act} {w w' w0:World} {B off:Nat} {cs:Array Value} {T t:TypeId} {o:Oper} {ops:Array Oper} {Q:Exit→Act→World→Prop} {α:Type}
theorem ae {a b:Bool} (h:a=b):Ending.returned (.bool a)=.returned (.bool b):=by rw [h]
theorem aa (w:World) (o:Obj):Below w.heap.size w (w.alloc o):=(Below.refl _ w).alloc (Nat.le_refl _) _
theorem aG (w:World):Below w.heap.size w w.drew:=⟨rfl,rfl,rfl,Nat.le_refl _,fun _ _=>rfl⟩
theorem Below.join (h:Below w0.heap.size w0 w) (hb:Below w.heap.size w w'):Below w0.heap.size w0 w':=h.trans (hb.mono h.size)
theorem Below.plus (h:Below w0.heap.size w0 w) (o:Obj):Below w0.heap.size w0 (w.alloc o):=h.alloc h.size _
theorem uz (h:w.heap[B]? =some (.cells cs t (0,0))) (k:Nat) (v:Value):(w.setCell ⟨B,k,none⟩ v).heap[B]? =some (.cells (cs.setIfInBounds k v) t (0,0)):=by
 simp only [World.setCell,Array.getElem?_modify];rw [if_pos trivial,h];rfl
theorem z7 (h:w.heap[B]? =some (.cells cs t (0,0))) (k:Nat):w.frozen? ⟨B,k,none⟩=false:=by simp [World.frozen?,h]
theorem mB {o:Obj} (h:w.heap[B]? =some o):B<w.heap.size:=(Array.getElem?_eq_some_iff.1 h).1
theorem aQ {o:Obj} (h:w.heap[B]? =some o) (hb:Below w.heap.size w w'):w'.heap[B]? =some o:=(hb.block B (mB h)).trans h
theorem fe {rest:List Oper} {v:Value} (hw:Region.wanted o (yielded ops a.tmps)=true) (hrun:(execOp a.eval o).run prog w=.ok (.value v) w)
  (k:wpList prog ops Q rest (a.put o.dst v) w):wpList prog ops Q (o::rest) a w:=by
 refine wpList_step fun K hK=>?_
 rw [if_pos hw];unfold Oper.wp;rw [hrun,Oper.upon_value];exact hK _ _ k
/- A part of a row, loaded as one value: an arm of the walk. -/
theorem kg {rest:List Oper} {d:TypeDesc} {cs:List Value} (hc:w.rangeAt B off cs) (hu:prog.underlying T=some d) (hd:d.isRow=true)
  (hi:(prog.info? T).map (·.size)=some cs.length) (x:Operand) (ho:o.op=.load T x) (hx:a.eval x=.pointer (some ⟨B,off,none⟩)) (hw:Region.wanted o (yielded ops a.tmps)=true)
  (k:wpList prog ops Q rest (a.put o.dst (.agg cs.toArray)) w):wpList prog ops Q (o::rest) a w:=by
 refine fe hw ?_ k;have h:=run_loadAt_mid w B off T cs d hc hu hd hi;simp [execOp,ho,hx,h,Sem.run_bind,Result.andThen]
/- One stored. -/
theorem stM {rest:List Oper} {cs:List Value} (ht:w.there B off cs.length) (hi:(prog.info? T).map (·.size)=some cs.length) (h1:cs.all (·.oneCell')=true) (hgd:o.guard=none)
  (x y:Operand) (ho:o.op=.store T x y) (hx:a.eval x=.pointer (some ⟨B,off,none⟩)) (hy:a.eval y=.agg cs.toArray)
  (k:wpList prog ops Q rest (a.put o.dst undef) (w.setCells B off cs)):wpList prog ops Q (o::rest) a w:=
 wpList_store_mid hgd T x y ho B off cs.toArray hx hy (by simpa using ht) (by simpa using hi) (by simpa using h1) (by simpa using k)
def upd:Array Value→Nat→List Value→Array Value
 | cs,_,[]=>cs
 | cs,o,v::r=>upd (cs.setIfInBounds o v) (o+1) r
theorem uy {B:Nat} {t:TypeId}:∀(vs:List Value) (o:Nat) {w:World} {cs:Array Value},w.heap[B]? =some (.cells cs t (0,0))→(w.setCells B o vs).heap[B]? =some (.cells (upd cs o vs) t (0,0))
 | [],o,w,cs,h=>h
 | v::r,o,w,cs,h=>by
  rw [World.setCells,upd];exact uy r (o+1) (uz h o v)
theorem yu {B N:Nat} (hB:N≤B):∀(vs:List Value) (o:Nat) {w0 w:World},Below N w0 w→Below N w0 (w.setCells B o vs)
 | [],o,w0,w,h=>h
 | v::r,o,w0,w,h=>by
  rw [World.setCells];exact yu hB r (o+1) (h.setCell (p:=⟨B,o,none⟩) hB v)
theorem yJ {fz:Nat×Nat} (h:w.heap[B]? =some (.cells cs t fz)) (o:Nat) (ds:List Value) (e:(cs.toList.drop o).take ds.length=ds):w.rangeAt B o ds:=fun j v hv=>by
 rw [cell_of_row w B (o+j) cs t fz h];have hj:j<ds.length:=(List.getElem?_eq_some_iff.1 hv).1;rw [←e,List.getElem?_take_of_lt hj,List.getElem?_drop] at hv
 simpa using hv
theorem MT (h:w.heap[B]? =some (.cells cs t (0,0))) (o n:Nat) (e:o+n≤cs.size):w.there B o n:=fun j hj=>by
 refine ⟨?_,z7 h _⟩;rw [cell_of_row w B (o+j) cs t _ h,Array.getElem?_eq_getElem (by omega)];rfl
theorem ej {b o:Nat} {cs:List Value} (h:w.rangeAt b o cs) (hb:Below w.heap.size w w'):w'.rangeAt b o cs:=fun j v hv=>cell_later hb (h j v hv)
/- Lists that can be read. -/
def iG {α:Type} (f:α→List Value) (n:Nat) (w:World) (a:Option Addr) (l:List α):Prop:=∀(i:Nat) (h:i<l.length),∃b o,a=some ⟨b,o,none⟩∧w.rangeAt b (o+i * n) (f l[i])
theorem iG.later {f:α→List Value} {n:Nat} {a:Option Addr} {l:List α} (h:iG f n w a l) (hb:Below w.heap.size w w'):iG f n w' a l:=fun i hi=>by
 obtain ⟨b,o,e,r⟩:=h i hi;exact ⟨b,o,e,ej r hb⟩
theorem iG.nil (f:α→List Value) (n:Nat) (w:World) (a:Option Addr):iG f n w a []:=fun i hi=>by cases hi
/- The parts as cells. -/
def iI (s:Int×Int):List Value:=[.int .i64 s.1,.int .i64 s.2]
def bxl (b:(Int×Int)×(Int×Int)):List Value:=[.int .i64 b.1.1,.int .i64 b.1.2,.int .i64 b.2.1,.int .i64 b.2.2]
def mW (i:(Int×Int)×((Int×Int)×(Int×Int))):List Value:=[.int .i64 i.1.1,.int .i64 i.1.2,.int .i64 i.2.1.1,.int .i64 i.2.1.2,.int .i64 i.2.2.1,.int .i64 i.2.2.2]
def vy (e:Int) (vL vJ vI:Value):List Value:=[.int .i64 e,vL,vJ,vI]
def mz (p:(Int×Int)×(Int×(((Int×Int)×(Int×Int))×(((Int×Int)×(Int×Int))×((Int×Int)×(Int×Int)))))):List Value:=
 [.int .i64 p.1.1,.int .i64 p.1.2,.int .i64 p.2.1,.int .i64 p.2.2.1.1.1,.int .i64 p.2.2.1.1.2,.int .i64 p.2.2.1.2.1,.int .i64 p.2.2.1.2.2,.int .i64 p.2.2.2.1.1.1,.int .i64 p.2.2.2.1.1.2,.int .i64 p.2.2.2.1.2.1,.int .i64 p.2.2.2.1.2.2,.int .i64 p.2.2.2.2.1.1,.int .i64 p.2.2.2.2.1.2,.int .i64 p.2.2.2.2.2.1,.int .i64 p.2.2.2.2.2.2]
def Ti (d:Int×((Int×Int)×ByteArray)):List Value:=[.int .i64 d.1,.int .i64 d.2.1.1,.int .i64 d.2.1.2,.string d.2.2]
def xE (m:lZ) (vL vJ vI:Value):List Value:=.int .i64 m.kd::(vy m.rk.1 vL vJ vI++(iI m.rq++(mz m.rp++Ti m.sd)))
theorem ju:(prog.info? 113).map (·.size)=some 2:=by kernel_rfl
theorem gh:(prog.info? 103).map (·.size)=some 6:=by kernel_rfl
theorem Ka:(prog.info? 54).map (·.size)=some 4:=by kernel_rfl
theorem E0:(prog.info? 59).map (·.size)=some 2:=by kernel_rfl
theorem J_:(prog.info? 64).map (·.size)=some 15:=by kernel_rfl
theorem M0:(prog.info? 66).map (·.size)=some 4:=by kernel_rfl
theorem S9:(prog.info? 68).map (·.size)=some 26:=by kernel_rfl
open Sh (bc par Oj Br uX nH jy)
theorem yg (n:Int) (w:World):Calls prog 219 #[.int .i64 n] w fun e w'=>e=.returned (.bool (gE n))∧w'=w:=by
 by_cases h0:1≤n
 ·by_cases h1:n≤200
  ·go_enter func219,ntmps219;go_wp2
   go_ret;exact ⟨ae (by simp [gE,h0,h1]),rfl⟩
  ·go_enter func219,ntmps219;go_wp2
   go_ret;exact ⟨ae (by simp [gE,h0,h1]),rfl⟩
 ·go_enter func219,ntmps219;go_wp2
  go_ret;exact ⟨ae (by simp [gE];omega),rfl⟩
theorem Fo (n:Int) (w:World):Calls prog 90 #[.int .i64 n] w fun e w'=>e=.returned (.bool (gE n))∧w'=w:=by
 by_cases h0:1≤n
 ·by_cases h1:n≤200
  ·go_enter func90,ntmps90;go_wp2
   go_ret;exact ⟨ae (by simp [gE,h0,h1]),rfl⟩
  ·go_enter func90,ntmps90;go_wp2
   go_ret;exact ⟨ae (by simp [gE,h0,h1]),rfl⟩
 ·go_enter func90,ntmps90;go_wp2
  go_ret;exact ⟨ae (by simp [gE];omega),rfl⟩
theorem Dt (n:Int) (w:World):Calls prog 224 #[.int .i64 n] w fun e w'=>e=.returned (.bool (gW n))∧w'=w:=by
 by_cases h0:0≤n
 ·by_cases h1:n<256
  ·go_enter func224,ntmps224;go_wp2
   go_ret;exact ⟨ae (by simp [gW,h0,h1]),rfl⟩
  ·go_enter func224,ntmps224;go_wp2
   go_ret;exact ⟨ae (by simp [gW,h0,h1]),rfl⟩
 ·go_enter func224,ntmps224;go_wp2
  go_ret;exact ⟨ae (by simp [gW];omega),rfl⟩
theorem CC (n:Int) (w:World):Calls prog 93 #[.int .i64 n] w fun e w'=>e=.returned (.bool (gW n))∧w'=w:=by
 by_cases h0:0≤n
 ·by_cases h1:n<256
  ·go_enter func93,ntmps93;go_wp2
   go_ret;exact ⟨ae (by simp [gW,h0,h1]),rfl⟩
  ·go_enter func93,ntmps93;go_wp2
   go_ret;exact ⟨ae (by simp [gW,h0,h1]),rfl⟩
 ·go_enter func93,ntmps93;go_wp2
  go_ret;exact ⟨ae (by simp [gW];omega),rfl⟩
def gL (n:Int):Bool:=decide (0≤n)&&decide (n<64)
theorem KG (n:Int) (w:World):Calls prog 94 #[.int .i64 n] w fun e w'=>e=.returned (.bool (gL n))∧w'=w:=by
 by_cases h0:0≤n
 ·by_cases h1:n<64
  ·go_enter func94,ntmps94;go_wp2
   go_ret;exact ⟨ae (by simp [gL,h0,h1]),rfl⟩
  ·go_enter func94,ntmps94;go_wp2
   go_ret;exact ⟨ae (by simp [gL,h0,h1]),rfl⟩
 ·go_enter func94,ntmps94;go_wp2
  go_ret;exact ⟨ae (by simp [gL];omega),rfl⟩
theorem AV (s:Int×Int) (w:World):Calls prog 221 #[.agg #[.int .i64 s.1,.int .i64 s.2]] w fun e w'=>e=.returned (.bool (gS s))∧Below w.heap.size w w':=by
 obtain ⟨a,b⟩:=s;dsimp only;have hW:=Dt a
 cases hw:gW a with
 | false=>
  rw [hw] at hW;have HE:Hid (gS (a,b)=false):=by unfold Hid gS;rw [hw];rfl
  clear hw;go_enter func221,ntmps221;go_wp2_with (go_at_call 224;refine (hW _).mono ?_;rintro r w' ⟨rfl,rfl⟩)
  go_ret;exact ⟨ae HE.out.symm,aa _ _⟩
 | true=>
  rw [hw] at hW;have HE:Hid (gS (a,b)=(decide (0≤b)&&decide (b<64))):=by unfold Hid gS;rw [hw];rfl
  clear hw;by_cases h0:0≤b
  ·by_cases h1:b<64
   ·go_enter func221,ntmps221;go_wp2_with (go_at_call 224;refine (hW _).mono ?_;rintro r w' ⟨rfl,rfl⟩)
    go_ret;exact ⟨ae (by rw [HE.out];simp [h0,h1]),aa _ _⟩
   ·have d1:decide (b<64)=false:=by simp;omega
    go_enter func221,ntmps221;go_wp2_with (go_at_call 224;refine (hW _).mono ?_;rintro r w' ⟨rfl,rfl⟩)
    go_ret;exact ⟨ae (by rw [HE.out];simp [h0,h1]),aa _ _⟩
  ·have d1:decide (0≤b)=false:=by simp;omega
   go_enter func221,ntmps221;go_wp2_with (go_at_call 224;refine (hW _).mono ?_;rintro r w' ⟨rfl,rfl⟩)
   go_ret;exact ⟨ae (by rw [HE.out,d1];rfl),aa _ _⟩
theorem Dv (b:(Int×Int)×(Int×Int)) (w:World):Calls prog 226 #[.agg #[.int .i64 b.1.1,.int .i64 b.1.2,.int .i64 b.2.1,.int .i64 b.2.2]] w fun e w'=>e=.returned (.bool (gB b))∧Below w.heap.size w w':=by
 obtain ⟨⟨a1,a2⟩,b1,b2⟩:=b;dsimp only;have h1:=Rt.qG a1 a2;have h2:=Rt.qG b1 b2
 cases e1:gd a1 a2 with
 | false=>
  rw [e1] at h1;have HE:Hid (gB ((a1,a2),(b1,b2))=false):=by unfold Hid gB gK;dsimp only;rw [e1];rfl
  clear e1 h2;go_enter func226,ntmps226;go_wp2_with fail
  refine (h1 _).mono ?_;rintro r w' ⟨rfl,rfl⟩;go_wp2_with fail
  go_ret;exact ⟨ae HE.out.symm,Below.plus (aa _ _) _⟩
 | true=>
  rw [e1] at h1;have HE:Hid (gB ((a1,a2),(b1,b2))=gd b1 b2):=by unfold Hid gB gK;dsimp only;rw [e1];rfl
  clear e1;obtain ⟨g,hg⟩:∃g,gd b1 b2=g:=⟨_,rfl⟩;rw [hg] at h2 HE;rw [HE.out];clear hg HE;go_enter func226,ntmps226;go_wp2_with fail
  refine (h1 _).mono ?_;rintro r w' ⟨rfl,rfl⟩;go_wp2_with fail
  refine (h2 _).mono ?_;rintro r w' ⟨rfl,rfl⟩;go_wp2_with fail
  go_ret;exact ⟨by cases g <;> rfl,Below.plus (Below.plus (aa _ _) _) _⟩
theorem Af (b:(Int×Int)×(Int×Int)) (w:World):Calls prog 92 #[.agg #[.int .i64 b.1.1,.int .i64 b.1.2,.int .i64 b.2.1,.int .i64 b.2.2]] w fun e w'=>e=.returned (.bool (gB b))∧Below w.heap.size w w':=by
 obtain ⟨⟨a1,a2⟩,b1,b2⟩:=b;dsimp only;have h1:=Rt.rX a1 a2;have h2:=Rt.rX b1 b2
 cases e1:gd a1 a2 with
 | false=>
  rw [e1] at h1;have HE:Hid (gB ((a1,a2),(b1,b2))=false):=by unfold Hid gB gK;dsimp only;rw [e1];rfl
  clear e1 h2;go_enter func92,ntmps92;go_wp2_with fail
  refine (h1 _).mono ?_;rintro r w' ⟨rfl,rfl⟩;go_wp2_with fail
  go_ret;exact ⟨ae HE.out.symm,Below.plus (aa _ _) _⟩
 | true=>
  rw [e1] at h1;have HE:Hid (gB ((a1,a2),(b1,b2))=gd b1 b2):=by unfold Hid gB gK;dsimp only;rw [e1];rfl
  clear e1;obtain ⟨g,hg⟩:∃g,gd b1 b2=g:=⟨_,rfl⟩;rw [hg] at h2 HE;rw [HE.out];clear hg HE;go_enter func92,ntmps92;go_wp2_with fail
  refine (h1 _).mono ?_;rintro r w' ⟨rfl,rfl⟩;go_wp2_with fail
  refine (h2 _).mono ?_;rintro r w' ⟨rfl,rfl⟩;go_wp2_with fail
  go_ret;exact ⟨by cases g <;> rfl,Below.plus (Below.plus (aa _ _) _) _⟩
theorem QS {v u:Int} (h:u≤v∨85≤u) (h0:0≤v) (h1:v<85):A8 v u=false:=by
 unfold A8;by_cases hu:0≤u∧u<85
 ·rw [uX hu.1 (by omega) h1];by_cases e:u=v
  ·simp [e]
  ·simp [e]
 ·rw [nH (jy (by omega))];rfl
theorem GG (v u:Int) (h0:0≤v) (h1:v<21) (w:World):Calls prog 250 #[.int .i64 v,.int .i64 u] w fun e w'=>e=.returned (.bool (A8 v u))∧w'=w:=by
 by_cases hu:u≤v
 ·have HE:Hid (A8 v u=false):=QS (.inl hu) h0 (by omega);go_enter func250,ntmps250;go_wp2
  go_ret;exact ⟨ae HE.out.symm,rfl⟩
 ·by_cases hu2:85≤u
  ·have HE:Hid (A8 v u=false):=QS (.inr hu2) h0 (by omega);go_enter func250,ntmps250;go_wp2
   go_ret;exact ⟨ae HE.out.symm,rfl⟩
  ·have HE:Hid (A8 v u=bc v u):=by
    unfold Hid A8;rw [decide_eq_true (show u≠v by omega),Bool.and_true]
   go_enter func250,ntmps250;go_wp2
   go_loop [1] (fun b=>∃x:Int,0≤x∧x<85∧Hid (bc v x=bc v u)∧b=.int .i64 x) (fun b=>(intOf b).toNat)
   case atStart=>exact ⟨u,by omega,by omega,rfl,rfl⟩
   case round=>
    obtain ⟨x,hx0,hx1,hm,rfl⟩:=hrel;by_cases hlt:v<x
    ·have hp:par x=(x - 1)/4:=by unfold par;rw [if_pos (by omega)]
     have hq:Hid (bc v ((x - 1)/4)=bc v u):=by unfold Hid;rw [←hp,←Br h0 hlt hx1,hm.out]
     have htd:(x - 1).tdiv 4=(x - 1)/4:=Int.tdiv_eq_ediv_of_nonneg (by omega);clear hp hu hu2;go_wp2
     go_round
     case rel=>exact ⟨(x - 1)/4,by omega,by omega,hq,by first | rfl | (rw [htd]) | go_num⟩
     case measure=>simp [intOf];omega
    ·have hq:Hid ((x==v)=bc v u):=by unfold Hid;rw [←hm.out,uX hx0 (by omega) (by omega)]
     go_wp2
     go_ret;exact ⟨ae (by rw [HE.out];exact hq.out),rfl⟩
theorem AW (i:(Int×Int)×((Int×Int)×(Int×Int))) (w:World):Calls prog 223 #[.agg #[.int .i64 i.1.1,.int .i64 i.1.2,.int .i64 i.2.1.1,.int .i64 i.2.1.2,.int .i64 i.2.2.1,.int .i64 i.2.2.2]] w fun e w'=>e=.returned (.bool (gI i))∧Below w.heap.size w w':=by
 obtain ⟨⟨v,u⟩,b⟩:=i;dsimp only;by_cases h0:0≤v
 ·by_cases h1:v<21
  ·have hD:=GG v u h0 h1;have HE:Hid (gI ((v,u),b)=(A8 v u&&gB b)):=by unfold Hid gI;dsimp only;rw [decide_eq_true h0,decide_eq_true h1];rfl
   have hB:=Dv b;rw [HE.out];clear HE
   cases hd:A8 v u with
   | false=>
    rw [hd] at hD;clear hd hB;go_enter func223,ntmps223;go_wp2_with (go_at_call 250;refine (hD _).mono ?_;rintro r w' ⟨rfl,rfl⟩)
    go_ret;exact ⟨rfl,aa _ _⟩
   | true=>
    rw [hd] at hD;clear hd;rw [Bool.true_and];obtain ⟨g,hg⟩:∃g,gB b=g:=⟨_,rfl⟩;rw [hg] at hB;rw [hg];clear hg;go_enter func223,ntmps223;go_wp2_with (go_at_call 250;refine (hD _).mono ?_;rintro r w' ⟨rfl,rfl⟩)
    refine (hB _).mono ?_;rintro r w2 ⟨rfl,hb2⟩;have HB:Hid (Below w.heap.size w w2):=Below.join (aa _ _) hb2;clear hb2;go_wp2_with fail
    go_ret;exact ⟨by cases g <;> rfl,HB.out⟩
  ·have HE:Hid (gI ((v,u),b)=false):=by unfold Hid gI;dsimp only;rw [decide_eq_false h1,Bool.and_false];rfl
   go_enter func223,ntmps223;go_wp2
   go_ret;exact ⟨ae HE.out.symm,aa _ _⟩
 ·have HE:Hid (gI ((v,u),b)=false):=by unfold Hid gI;dsimp only;rw [decide_eq_false h0];rfl
  go_enter func223,ntmps223;go_wp2
  go_ret;exact ⟨ae HE.out.symm,aa _ _⟩
end Go.Proofs.YtanaapfobpgibaaGreatDoor.Wi
