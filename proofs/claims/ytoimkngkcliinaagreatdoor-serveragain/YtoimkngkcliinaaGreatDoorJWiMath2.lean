/- WiMath2, WiT, joined. -/
import Derived.Test.YtoimkngkcliinaaGreatDoorWiMath
import Derived.Test.YtoimkngkcliinaaGreatDoorJBitDone
import Derived.Test.YtoimkngkcliinaaGreatDoorJKeyMath
import Derived.Test.YtoimkngkcliinaaGreatDoorJShpMath
import Derived.Deep.MidRow
import Derived.Deep.WholeRow
import Derived.Deep.DeepCutAuto
import Derived.Laws.AppendOwnNone
import Derived.Laws.ResultCell
import Derived.Laws.OwnMore
import Derived.Maps.AppendAt
namespace Go.Proofs.YtoimkngkcliinaaGreatDoor.Wi
open Go.RowKit
open Bt (bv bo bo_length bv_lt bv_bo bo_bv bo_split bo_mod bv_append tb tb_length tb_append pk pk_tb tb_pk pk_pad pk_lt pk_length tx bys bys_tx tx_bys bys_length tx_size dn bitsF okF bitsF_append pkS pkE)
open Rt (gd)
open Sh (belB)
set_option linter.unusedVariables false
set_option maxRecDepth 4000
set_option linter.unusedSimpArgs false
structure Msg where
 kd:Int
 rk:Int×(List (Int×Int)×(List (Int×Int)×List ((Int×Int)×((Int×Int)×(Int×Int)))))
 rq:Int×Int
 rp:(Int×Int)×(Int×(((Int×Int)×(Int×Int))×(((Int×Int)×(Int×Int))×((Int×Int)×(Int×Int)))))
 sd:Int×((Int×Int)×ByteArray)
def zR:Int×(List (Int×Int)×(List (Int×Int)×List ((Int×Int)×((Int×Int)×(Int×Int))))):=(0,[],[],[])
def zQ:Int×Int:=(0,0)
def zP:(Int×Int)×(Int×(((Int×Int)×(Int×Int))×(((Int×Int)×(Int×Int))×((Int×Int)×(Int×Int))))):=((0,0),0,((0,0),(0,0)),((0,0),(0,0)),((0,0),(0,0)))
def zD:Int×((Int×Int)×ByteArray):=(0,(0,0),tx [])
def mR (r:Int×(List (Int×Int)×(List (Int×Int)×List ((Int×Int)×((Int×Int)×(Int×Int)))))):Msg:=⟨1,r,zQ,zP,zD⟩
def mQ (q:Int×Int):Msg:=⟨2,zR,q,zP,zD⟩
def mP (p:(Int×Int)×(Int×(((Int×Int)×(Int×Int))×(((Int×Int)×(Int×Int))×((Int×Int)×(Int×Int)))))):Msg:=⟨3,zR,zQ,p,zD⟩
def mD (d:Int×((Int×Int)×ByteArray)):Msg:=⟨4,zR,zQ,zP,d⟩
/- Right ones. -/
def gE (e:Int):Bool:=decide (1≤e)&&decide (e≤200)
def gW (x:Int):Bool:=decide (0≤x)&&decide (x<256)
def gS (s:Int×Int):Bool:=gW s.1&&(decide (0≤s.2)&&decide (s.2<64))
def dpr (v w:Int):Bool:=belB v w&&decide (w≠v)
def gI (i:(Int×Int)×((Int×Int)×(Int×Int))):Bool:=(decide (0≤i.1.1)&&decide (i.1.1<21))&&(dpr i.1.1 i.1.2&&gB i.2)
def gR (r:Int×(List (Int×Int)×(List (Int×Int)×List ((Int×Int)×((Int×Int)×(Int×Int)))))):Bool:=
 gE r.1&&((decide (r.2.1.length≤64)&&r.2.1.all gS)&&((decide (r.2.2.1.length≤64)&&r.2.2.1.all gS)&&(decide (r.2.2.2.length≤1536)&&r.2.2.2.all gI)))
def gQ (q:Int×Int):Bool:=gW q.1&&gE q.2
def gP (p:(Int×Int)×(Int×(((Int×Int)×(Int×Int))×(((Int×Int)×(Int×Int))×((Int×Int)×(Int×Int)))))):Bool:=gS p.1&&(gE p.2.1&&(gB p.2.2.1&&(gB p.2.2.2.1&&gB p.2.2.2.2)))
def gD (d:Int×((Int×Int)×ByteArray)):Bool:=gE d.1&&(gK d.2.1&&decide (d.2.2.size≤64))
def nR (r:Int×(List (Int×Int)×(List (Int×Int)×List ((Int×Int)×((Int×Int)×(Int×Int)))))):Bool:=decide (r.1=0)&&(decide (r.2.1.length=0)&&(decide (r.2.2.1.length=0)&&decide (r.2.2.2.length=0)))
theorem nR_iff {r:Int×(List (Int×Int)×(List (Int×Int)×List ((Int×Int)×((Int×Int)×(Int×Int)))))}:nR r=true↔r=zR:=by
 obtain ⟨e,l,j,i⟩:=r;simp [nR,zR,List.length_eq_zero_iff]
def gM (m:Msg):Bool:=
 if m.kd=1 then gR m.rk&&(decide (m.rq=zQ)&&(decide (m.rp=zP)&&decide (m.sd=zD)))
 else if m.kd=2 then nR m.rk&&(gQ m.rq&&(decide (m.rp=zP)&&decide (m.sd=zD)))
 else if m.kd=3 then nR m.rk&&(decide (m.rq=zQ)&&(gP m.rp&&decide (m.sd=zD)))
 else if m.kd=4 then nR m.rk&&(decide (m.rq=zQ)&&(decide (m.rp=zP)&&gD m.sd))
 else false
theorem gE_iff {e:Int}:gE e=true↔1≤e∧e≤200:=by simp [gE]
theorem gW_iff {x:Int}:gW x=true↔0≤x∧x<256:=by simp [gW]
theorem gS_iff {s:Int×Int}:gS s=true↔(0≤s.1∧s.1<256)∧0≤s.2∧s.2<64:=by simp [gS,gW]
theorem gB_iff {b:(Int×Int)×(Int×Int)}:gB b=true↔gK b.1=true∧gK b.2=true:=by simp [gB]
theorem bel_node {v w:Int} (h:belB v w=true):(0≤v∧v<85)∧0≤w∧w<85:=by
 simp only [belB,Sh.nodeB,Bool.and_eq_true,decide_eq_true_eq] at h;omega
theorem gI_iff {i:(Int×Int)×((Int×Int)×(Int×Int))}:gI i=true↔((0≤i.1.1∧i.1.1<21)∧dpr i.1.1 i.1.2=true∧gK i.2.1=true∧gK i.2.2=true):=by simp [gI,gB]
theorem gI_fit {i:(Int×Int)×((Int×Int)×(Int×Int))} (h:gI i=true):(fitI 5 i.1.1∧fitI 7 i.1.2)∧(gK i.2.1=true∧gK i.2.2=true):=by
 obtain ⟨⟨h1,h2⟩,h3,h4,h5⟩:=gI_iff.1 h;simp only [dpr,Bool.and_eq_true] at h3;have:=bel_node h3.1;exact ⟨⟨⟨h1,by show _<(32:Int);omega⟩,⟨by omega,by show _<(128:Int);omega⟩⟩,h4,h5⟩
theorem gS_fit {s:Int×Int} (h:gS s=true):fitI 8 s.1∧fitI 6 s.2:=by
 have:=gS_iff.1 h;exact ⟨⟨by omega,by show _<(256:Int);omega⟩,⟨by omega,by show _<(64:Int);omega⟩⟩
theorem gE_fit {e:Int} (h:gE e=true):fitI 8 e:=by
 have:=gE_iff.1 h;exact ⟨by omega,by show _<(256:Int);omega⟩
theorem gW_fit {e:Int} (h:gW e=true):fitI 8 e:=by
 have:=gW_iff.1 h;exact ⟨by omega,by show _<(256:Int);omega⟩
/- The parts' bits. -/
def eL (l:List (Int×Int)):List Bool:=bo l.length 7++l.flatMap eS
def eR (r:Int×(List (Int×Int)×(List (Int×Int)×List ((Int×Int)×((Int×Int)×(Int×Int)))))):List Bool:=bo r.1.toNat 8++(eL r.2.1++(eL r.2.2.1++(bo r.2.2.2.length 11++r.2.2.2.flatMap eI)))
def eQ (q:Int×Int):List Bool:=bo q.1.toNat 8++bo q.2.toNat 8
def eP (p:(Int×Int)×(Int×(((Int×Int)×(Int×Int))×(((Int×Int)×(Int×Int))×((Int×Int)×(Int×Int)))))):List Bool:=eS p.1++(bo p.2.1.toNat 8++(eB p.2.2.1++(eB p.2.2.2.1++eB p.2.2.2.2)))
def eD (d:Int×((Int×Int)×ByteArray)):List Bool:=bo d.1.toNat 8++(eK d.2.1++eX d.2.2)
def pL:List Bool→Nat→Option (List (Int×Int)×Nat):=pc 7 pS
def pIs:List Bool→Nat→Option (List ((Int×Int)×((Int×Int)×(Int×Int)))×Nat):=pc 11 pI
def pR:List Bool→Nat→Option ((Int×(List (Int×Int)×(List (Int×Int)×List ((Int×Int)×((Int×Int)×(Int×Int))))))×Nat):=pq (pi 8) (pq pL (pq pL pIs))
def pQ:List Bool→Nat→Option ((Int×Int)×Nat):=pq (pi 8) (pi 8)
def pP:List Bool→Nat→Option (((Int×Int)×(Int×(((Int×Int)×(Int×Int))×(((Int×Int)×(Int×Int))×((Int×Int)×(Int×Int))))))×Nat):=pq pS (pq (pi 8) (pq pB (pq pB pB)))
def pD:List Bool→Nat→Option ((Int×((Int×Int)×ByteArray))×Nat):=pq (pi 8) (pq pK pX)
def okR (r:Int×(List (Int×Int)×(List (Int×Int)×List ((Int×Int)×((Int×Int)×(Int×Int)))))):Prop:=
 fitI 8 r.1∧((r.2.1.length<2^7∧∀x∈r.2.1,fitI 8 x.1∧fitI 6 x.2)∧((r.2.2.1.length<2^7∧∀x∈r.2.2.1,fitI 8 x.1∧fitI 6 x.2)∧(r.2.2.2.length<2^11∧∀i∈r.2.2.2,(fitI 5 i.1.1∧fitI 7 i.1.2)∧(gK i.2.1=true∧gK i.2.2=true))))
def okQ (q:Int×Int):Prop:=fitI 8 q.1∧fitI 8 q.2
def okP (p:(Int×Int)×(Int×(((Int×Int)×(Int×Int))×(((Int×Int)×(Int×Int))×((Int×Int)×(Int×Int)))))):Prop:=
 (fitI 8 p.1.1∧fitI 6 p.1.2)∧(fitI 8 p.2.1∧((gK p.2.2.1.1=true∧gK p.2.2.1.2=true)∧((gK p.2.2.2.1.1=true∧gK p.2.2.2.1.2=true)∧(gK p.2.2.2.2.1=true∧gK p.2.2.2.2.2=true))))
def okT (d:Int×((Int×Int)×ByteArray)):Prop:=fitI 8 d.1∧(gK d.2.1=true∧d.2.2.size<2^7)
theorem cod_R:Cod okR eR pR:=(cod_int 8).seq ((cod_S.count 7).seq ((cod_S.count 7).seq (cod_I.count 11)))
theorem cod_Q:Cod okQ eQ pQ:=(cod_int 8).seq (cod_int 8)
theorem cod_P:Cod okP eP pP:=cod_S.seq ((cod_int 8).seq (cod_B.seq (cod_B.seq cod_B)))
theorem cod_D:Cod okT eD pD:=(cod_int 8).seq (cod_K.seq cod_X)
/- The message's. -/
def eM (m:Msg):List Bool:=bo (m.kd - 1).toNat 2++(if m.kd=1 then eR m.rk else if m.kd=2 then eQ m.rq else if m.kd=3 then eP m.rp else eD m.sd)
def pM (T:List Bool) (c:Nat):Option (Msg×Nat):=
 match pn 2 T c with
 | none=>none
 | some (v,c1)=>if v=0 then pm mR pR T c1 else if v=1 then pm mQ pQ T c1 else if v=2 then pm mP pP T c1 else pm mD pD T c1
def okM (m:Msg):Prop:=(okR m.rk∧m=mR m.rk)∨(okQ m.rq∧m=mQ m.rq)∨(okP m.rp∧m=mP m.rp)∨(okT m.sd∧m=mD m.sd)
theorem part_back {α:Type} {ok:α→Prop} {en:α→List Bool} {p:List Bool→Nat→Option (α×Nat)} (h:Cod ok en p) {x:α} (hx:ok x) {v:Nat} (hv:v<4) {T A Z:List Bool} (hT:T=A++((bo v 2++en x)++Z)):
  pn 2 T A.length=some (v,A.length+2)∧p T (A.length+2)=some (x,A.length+(bo v 2++en x).length):=by
 have e1:=(cod_nat 2).back (T:=T) (A:=A) (Z:=en x++Z) hv (by rw [hT];simp);have e2:=h.back (T:=T) (A:=A++bo v 2) (Z:=Z) hx (by rw [hT];simp);simp only [List.length_append,bo_length] at e1 e2 ⊢;exact ⟨e1,by rw [e2,Nat.add_assoc]⟩
theorem part_forth {α:Type} {ok:α→Prop} {en:α→List Bool} {p:List Bool→Nat→Option (α×Nat)} (h:Cod ok en p) {x:α} {v c c1 c':Nat} {T:List Bool} (h1:pn 2 T c=some (v,c1)) (h2:p T c1=some (x,c')) (hc:c≤T.length):
  ok x∧c'=c+(bo v 2++en x).length∧c'≤T.length∧(T.drop c).take (bo v 2++en x).length=bo v 2++en x:=by
 obtain ⟨o1,a1,b1,t1⟩:=(cod_nat 2).forth h1 hc;obtain ⟨o2,a2,b2,t2⟩:=h.forth h2 b1;try dsimp only at a1 t1
 refine ⟨o2,by rw [a2,a1,List.length_append,Nat.add_assoc],b2,?_⟩;rw [List.length_append,take_two,t1,List.drop_drop,←a1,t2]
theorem cod_M:Cod okM eM pM where
 back:=by
  intro T A Z m hm hT;rcases hm with ⟨o,e⟩ | ⟨o,e⟩ | ⟨o,e⟩ | ⟨o,e⟩ <;> rw [e] at hT ⊢ <;> unfold pM
  ·obtain ⟨h1,h2⟩:=part_back cod_R o (v:=0) (by decide) hT;rw [h1];exact pm_yes h2
  ·obtain ⟨h1,h2⟩:=part_back cod_Q o (v:=1) (by decide) hT;rw [h1];exact pm_yes h2
  ·obtain ⟨h1,h2⟩:=part_back cod_P o (v:=2) (by decide) hT;rw [h1];exact pm_yes h2
  ·obtain ⟨h1,h2⟩:=part_back cod_D o (v:=3) (by decide) hT;rw [h1];exact pm_yes h2
 forth:=by
  intro T c m c' h hc;unfold pM at h;split at h
  ·cases h
  ·rename_i v c1 h1
   have hv:=pn_lt h1;by_cases v0:v=0
   ·subst v0;rw [if_pos rfl] at h;obtain ⟨x,rfl,h2⟩:=pm_inv h;obtain ⟨o,r⟩:=part_forth cod_R h1 h2 hc;exact ⟨.inl ⟨o,rfl⟩,r⟩
   ·rw [if_neg v0] at h;by_cases v1:v=1
    ·subst v1;rw [if_pos rfl] at h;obtain ⟨x,rfl,h2⟩:=pm_inv h;obtain ⟨o,r⟩:=part_forth cod_Q h1 h2 hc;exact ⟨.inr (.inl ⟨o,rfl⟩),r⟩
    ·rw [if_neg v1] at h;by_cases v2:v=2
     ·subst v2;rw [if_pos rfl] at h;obtain ⟨x,rfl,h2⟩:=pm_inv h;obtain ⟨o,r⟩:=part_forth cod_P h1 h2 hc;exact ⟨.inr (.inr (.inl ⟨o,rfl⟩)),r⟩
     ·rw [if_neg v2] at h;obtain rfl:v=3:=by omega
      obtain ⟨x,rfl,h2⟩:=pm_inv h;obtain ⟨o,r⟩:=part_forth cod_D h1 h2 hc;exact ⟨.inr (.inr (.inr ⟨o,rfl⟩)),r⟩
theorem gR_ok {r:Int×(List (Int×Int)×(List (Int×Int)×List ((Int×Int)×((Int×Int)×(Int×Int)))))} (h:gR r=true):okR r:=by
 simp only [gR,Bool.and_eq_true,decide_eq_true_eq,List.all_eq_true] at h;obtain ⟨h1,⟨h2,h3⟩,⟨h4,h5⟩,h6,h7⟩:=h;exact ⟨gE_fit h1,⟨by omega,fun x hx=>gS_fit (h3 x hx)⟩,⟨by omega,fun x hx=>gS_fit (h5 x hx)⟩,by omega,fun x hx=>gI_fit (h7 x hx)⟩
theorem gM_cases {m:Msg} (h:gM m=true):(gR m.rk=true∧m=mR m.rk)∨(gQ m.rq=true∧m=mQ m.rq)∨(gP m.rp=true∧m=mP m.rp)∨(gD m.sd=true∧m=mD m.sd):=by
 obtain ⟨k,r,q,p,d⟩:=m;unfold gM at h;try dsimp only at h ⊢
 split at h
 ·rename_i hk
  simp only [Bool.and_eq_true,decide_eq_true_eq,nR_iff] at h;obtain ⟨a,rfl,rfl,rfl⟩:=h;exact .inl ⟨a,by rw [hk];rfl⟩
 ·split at h
  ·rename_i hk
   simp only [Bool.and_eq_true,decide_eq_true_eq,nR_iff] at h;obtain ⟨rfl,a,rfl,rfl⟩:=h;exact .inr (.inl ⟨a,by rw [hk];rfl⟩)
  ·split at h
   ·rename_i hk
    simp only [Bool.and_eq_true,decide_eq_true_eq,nR_iff] at h;obtain ⟨rfl,rfl,a,rfl⟩:=h;exact .inr (.inr (.inl ⟨a,by rw [hk];rfl⟩))
   ·split at h
    ·rename_i hk
     simp only [Bool.and_eq_true,decide_eq_true_eq,nR_iff] at h;obtain ⟨rfl,rfl,rfl,a⟩:=h;exact .inr (.inr (.inr ⟨a,by rw [hk];rfl⟩))
    ·cases h
theorem gM_ok {m:Msg} (h:gM m=true):okM m:=by
 rcases gM_cases h with ⟨a,e⟩ | ⟨a,e⟩ | ⟨a,e⟩ | ⟨a,e⟩
 ·exact .inl ⟨gR_ok a,e⟩
 ·simp only [gQ,Bool.and_eq_true] at a;exact .inr (.inl ⟨⟨gW_fit a.1,gE_fit a.2⟩,e⟩)
 ·simp only [gP,Bool.and_eq_true] at a;exact .inr (.inr (.inl ⟨⟨gS_fit a.1,gE_fit a.2.1,gB_iff.1 a.2.2.1,gB_iff.1 a.2.2.2.1,gB_iff.1 a.2.2.2.2⟩,e⟩))
 ·simp only [gD,Bool.and_eq_true,decide_eq_true_eq] at a;exact .inr (.inr (.inr ⟨⟨gE_fit a.1,a.2.1,by omega⟩,e⟩))
/- The document's reader: where bits lack, noughts are read. -/
def Sim {α:Type} (p:List Bool→Nat→Option (α×Nat)) (t:List Bool→Nat→α×Nat):Prop:=∀{T:List Bool} {c:Nat} {x:α} {c':Nat},p T c=some (x,c')→t T c=(x,c')
def tn (q:Nat) (T:List Bool) (c:Nat):Nat×Nat:=if c+q≤T.length then (bv ((T.drop c).take q),c+q) else (0,c)
def ti (q:Nat) (T:List Bool) (c:Nat):Int×Nat:=(((tn q T c).1:Int),(tn q T c).2)
def tq {α β:Type} (d:List Bool→Nat→α×Nat) (e:List Bool→Nat→β×Nat) (T:List Bool) (c:Nat):(α×β)×Nat:=(((d T c).1,(e T (d T c).2).1),(e T (d T c).2).2)
def tl {α:Type} (d:List Bool→Nat→α×Nat) (T:List Bool) (c:Nat):Nat→List α×Nat
 | 0=>([],c)
 | n+1=>((tl d T c n).1++[(d T (tl d T c n).2).1],(d T (tl d T c n).2).2)
def tc {α:Type} (q:Nat) (d:List Bool→Nat→α×Nat) (T:List Bool) (c:Nat):List α×Nat:=tl d T (tn q T c).2 (tn q T c).1
def tK:List Bool→Nat→(Int×Int)×Nat:=tq (ti 16) (ti 8)
def tS:List Bool→Nat→(Int×Int)×Nat:=tq (ti 8) (ti 6)
def tB:List Bool→Nat→((Int×Int)×(Int×Int))×Nat:=tq tK tK
def tI:List Bool→Nat→((Int×Int)×((Int×Int)×(Int×Int)))×Nat:=tq (tq (ti 5) (ti 7)) tB
def tX (T:List Bool) (c:Nat):ByteArray×Nat:=(tx (tc 7 (tn 8) T c).1,(tc 7 (tn 8) T c).2)
def tR:List Bool→Nat→(Int×(List (Int×Int)×(List (Int×Int)×List ((Int×Int)×((Int×Int)×(Int×Int))))))×Nat:=tq (ti 8) (tq (tc 7 tS) (tq (tc 7 tS) (tc 11 tI)))
def tQ:List Bool→Nat→(Int×Int)×Nat:=tq (ti 8) (ti 8)
def tP:List Bool→Nat→((Int×Int)×(Int×(((Int×Int)×(Int×Int))×(((Int×Int)×(Int×Int))×((Int×Int)×(Int×Int))))))×Nat:=tq tS (tq (ti 8) (tq tB (tq tB tB)))
def tD:List Bool→Nat→(Int×((Int×Int)×ByteArray))×Nat:=tq (ti 8) (tq tK tX)
def tM (T:List Bool):Msg:=
 if (tn 2 T 0).1=0 then mR (tR T (tn 2 T 0).2).1 else if (tn 2 T 0).1=1 then mQ (tQ T (tn 2 T 0).2).1 else if (tn 2 T 0).1=2 then mP (tP T (tn 2 T 0).2).1 else mD (tD T (tn 2 T 0).2).1
theorem tn_lt (q:Nat) (T:List Bool) (c:Nat):(tn q T c).1<2^q:=by
 unfold tn;split
 ·refine Nat.lt_of_lt_of_le (bv_lt _) (Nat.pow_le_pow_right (by decide) ?_);simp;omega
 ·exact Nat.two_pow_pos q
theorem sim_n (q:Nat):Sim (pn q) (tn q):=by
 intro T c x c' h;unfold pn at h;unfold tn;split at h
 ·rename_i hq
  cases h
  rw [if_pos hq]
 ·cases h
theorem sim_i (q:Nat):Sim (pi q) (ti q):=by
 intro T c x c' h;obtain ⟨n,rfl,h1⟩:=pm_inv h;unfold ti;rw [sim_n q h1]
section
variable {α β:Type} {d:List Bool→Nat→Option (α×Nat)} {e:List Bool→Nat→Option (β×Nat)} {d':List Bool→Nat→α×Nat} {e':List Bool→Nat→β×Nat}
theorem sim_q (h1:Sim d d') (h2:Sim e e'):Sim (pq d e) (tq d' e'):=by
 intro T c x c' h;obtain ⟨c1,k1,k2⟩:=pq_inv h;unfold tq;rw [h1 k1];try dsimp only
 rw [h2 k2]
theorem sim_l (h1:Sim d d') {T:List Bool} {c:Nat}:∀{n:Nat} {l:List α} {c':Nat},pl d T c n=some (l,c')→tl d' T c n=(l,c')
 | 0,l,c',h=>by cases h;rfl
 | n+1,l,c',h=>by
  obtain ⟨l',x,c1,rfl,k1,k2⟩:=pl_inv h;rw [tl,sim_l h1 k1];try dsimp only
  rw [h1 k2]
theorem sim_c (q:Nat) (h1:Sim d d'):Sim (pc q d) (tc q d'):=by
 intro T c x c' h;unfold pc at h;split at h
 ·cases h
 ·rename_i n c1 k1
  unfold tc;rw [sim_n q k1];exact sim_l h1 h
end
theorem sim_K:Sim pK tK:=by
 intro T c x c' h;unfold pK at h;split at h
 ·cases h
 ·rename_i v c1 k
  split at h
  ·cases h
   unfold pn at k;split at k
   ·rename_i hq
    simp only [Option.some.injEq,Prod.mk.injEq] at k;obtain ⟨k,rfl⟩:=k
    have e:(T.drop c).take 24=(T.drop c).take 16++(T.drop (c+16)).take 8:=by
     rw [show (24:Nat)=16+8 from rfl,take_two,List.drop_drop]
    have l8:((T.drop (c+16)).take 8).length=8:=by simp;omega
    have hlt:=bv_lt ((T.drop (c+16)).take 8);rw [l8] at hlt;have hv:v=bv ((T.drop c).take 16) * 256+bv ((T.drop (c+16)).take 8):=by rw [←k,e,bv_append,l8]
    unfold tK tq ti tn;rw [if_pos (show c+16≤T.length by omega)];try dsimp only
    rw [if_pos (show c+16+8≤T.length by omega)];try dsimp only
    have e1:v/256=bv ((T.drop c).take 16):=by omega
    have e2:v%256=bv ((T.drop (c+16)).take 8):=by omega
    rw [e1,e2]
   ·cases k
  ·cases h
theorem sim_S:Sim pS tS:=sim_q (sim_i 8) (sim_i 6)
theorem sim_B:Sim pB tB:=sim_q sim_K sim_K
theorem sim_I:Sim pI tI:=sim_q (sim_q (sim_i 5) (sim_i 7)) sim_B
theorem sim_X:Sim pX tX:=by
 intro T c x c' h;obtain ⟨l,rfl,k⟩:=pm_inv h;unfold tX;rw [sim_c 7 (sim_n 8) k]
theorem sim_R:Sim pR tR:=sim_q (sim_i 8) (sim_q (sim_c 7 sim_S) (sim_q (sim_c 7 sim_S) (sim_c 11 sim_I)))
theorem sim_Q:Sim pQ tQ:=sim_q (sim_i 8) (sim_i 8)
theorem sim_P:Sim pP tP:=sim_q sim_S (sim_q (sim_i 8) (sim_q sim_B (sim_q sim_B sim_B)))
theorem sim_D:Sim pD tD:=sim_q (sim_i 8) (sim_q sim_K sim_X)
theorem sim_M {T:List Bool} {m:Msg} {c:Nat} (h:pM T 0=some (m,c)):tM T=m:=by
 unfold pM at h;split at h
 ·cases h
 ·rename_i v c1 h1
  have hs:=sim_n 2 h1;unfold tM;rw [hs];try dsimp only
  by_cases v0:v=0
  ·rw [if_pos v0] at h ⊢;obtain ⟨x,rfl,h2⟩:=pm_inv h;rw [sim_R h2]
  ·rw [if_neg v0] at h ⊢;by_cases v1:v=1
   ·rw [if_pos v1] at h ⊢;obtain ⟨x,rfl,h2⟩:=pm_inv h;rw [sim_Q h2]
   ·rw [if_neg v1] at h ⊢;by_cases v2:v=2
    ·rw [if_pos v2] at h ⊢;obtain ⟨x,rfl,h2⟩:=pm_inv h;rw [sim_P h2]
    ·rw [if_neg v2] at h ⊢;obtain ⟨x,rfl,h2⟩:=pm_inv h;rw [sim_D h2]
/- What is written, what is taken. -/
def enS (m:Msg):ByteArray:=if gM m then tx (pk (eM m)) else tx []
def enE (m:Msg):Int:=if gM m then 0 else 13
def okD (T:List Bool):Bool:=match pM T 0 with
 | none=>false
 | some (m,c)=>dn T c&&gM m
theorem okD_some {T:List Bool} {m:Msg} {c:Nat} (h:pM T 0=some (m,c)):okD T=(dn T c&&gM m):=by unfold okD;rw [h]
theorem dn_zeros (l:List Bool) (k:Nat):dn (l++List.replicate k false) l.length=decide (k<8):=by
 unfold dn;rw [List.drop_left' rfl,(Bt.bv_zero_iff (List.replicate k false)).2 (by simp)];simp
theorem en_tb {m:Msg} (h:gM m=true):tb (bys (enS m))=eM m++List.replicate (8 * (((eM m).length+7)/8) - (eM m).length) false:=by
 unfold enS;rw [h,if_pos rfl,bys_tx _ (pk_lt _),tb_pk]
theorem en_size {m:Msg} (h:gM m=true):(enS m).size=((eM m).length+7)/8:=by
 unfold enS;rw [h,if_pos rfl,tx_size,pk_length]
theorem en_read {m:Msg} (h:gM m=true) {T X:List Bool} (hT:T=tb (bys (enS m))++X):pM T 0=some (m,(eM m).length):=by
 have:=cod_M.back (T:=T) (A:=[]) (Z:=List.replicate (8 * (((eM m).length+7)/8) - (eM m).length) false++X) (gM_ok h) (by rw [hT,en_tb h];simp)
 simpa using this
theorem en_back {m:Msg} (h:gM m=true):okD (tb (bys (enS m)))=true∧tM (tb (bys (enS m)))=m:=by
 have hp:=en_read h (T:=tb (bys (enS m))) (X:=[]) (by simp);refine ⟨?_,sim_M hp⟩;rw [okD_some hp,h,en_tb h,dn_zeros];simp;omega
/- A message's fields. -/
def fS (s:Int×Int):List (Nat×Int):=[(s.1.toNat,8),(s.2.toNat,6)]
def fK (k:Int×Int):List (Nat×Int):=[(k.1.toNat,16),(k.2.toNat,8)]
def fB (b:(Int×Int)×(Int×Int)):List (Nat×Int):=fK b.1++fK b.2
def fI (i:(Int×Int)×((Int×Int)×(Int×Int))):List (Nat×Int):=[(i.1.1.toNat,5),(i.1.2.toNat,7)]++fB i.2
def fL (l:List (Int×Int)):List (Nat×Int):=[(l.length,7)]++l.flatMap fS
def fR (r:Int×(List (Int×Int)×(List (Int×Int)×List ((Int×Int)×((Int×Int)×(Int×Int)))))):List (Nat×Int):=[(r.1.toNat,8)]++(fL r.2.1++(fL r.2.2.1++([(r.2.2.2.length,11)]++r.2.2.2.flatMap fI)))
def fQ (q:Int×Int):List (Nat×Int):=[(q.1.toNat,8),(q.2.toNat,8)]
def fP (p:(Int×Int)×(Int×(((Int×Int)×(Int×Int))×(((Int×Int)×(Int×Int))×((Int×Int)×(Int×Int)))))):List (Nat×Int):=fS p.1++([(p.2.1.toNat,8)]++(fB p.2.2.1++(fB p.2.2.2.1++fB p.2.2.2.2)))
def fX (s:ByteArray):List (Nat×Int):=[(s.size,7)]++(bys s).map fun n=>(n,8)
def fD (d:Int×((Int×Int)×ByteArray)):List (Nat×Int):=[(d.1.toNat,8)]++(fK d.2.1++fX d.2.2)
def fM (m:Msg):List (Nat×Int):=[((m.kd - 1).toNat,2)]++(if m.kd=1 then fR m.rk else if m.kd=2 then fQ m.rq else if m.kd=3 then fP m.rp else fD m.sd)
theorem bits_flat {α:Type} (f:α→List (Nat×Int)) (e:α→List Bool) (h:∀x,bitsF (f x)=e x):∀l:List α,bitsF (l.flatMap f)=l.flatMap e
 | []=>rfl
 | x::l=>by rw [List.flatMap_cons,List.flatMap_cons,bitsF_append,h,bits_flat f e h l]
theorem bits_S (s):bitsF (fS s)=eS s:=by simp [bitsF,fS,eS]
theorem bits_K (s):bitsF (fK s)=eK s:=by simp [bitsF,fK,eK]
theorem bits_B (s):bitsF (fB s)=eB s:=by unfold fB eB;rw [bitsF_append,bits_K,bits_K]
theorem bits_I (s):bitsF (fI s)=eI s:=by unfold fI eI;rw [bitsF_append,bits_B];simp [bitsF]
theorem bits_L (s):bitsF (fL s)=eL s:=by unfold fL eL;rw [bitsF_append,bits_flat fS eS bits_S];simp [bitsF]
theorem bits_R (r):bitsF (fR r)=eR r:=by unfold fR eR;rw [bitsF_append,bitsF_append,bitsF_append,bitsF_append,bits_L,bits_L,bits_flat fI eI bits_I];simp [bitsF]
theorem bits_Q (r):bitsF (fQ r)=eQ r:=by simp [bitsF,fQ,eQ]
theorem bits_P (r):bitsF (fP r)=eP r:=by unfold fP eP;rw [bitsF_append,bitsF_append,bitsF_append,bitsF_append,bits_S,bits_B,bits_B,bits_B];simp [bitsF]
theorem bits_X (s):bitsF (fX s)=eX s:=by
 unfold fX eX;rw [bitsF_append];have e:bitsF ((bys s).map fun n=>(n,(8:Int)))=tb (bys s):=by simp [bitsF,tb,List.flatMap_map]
 rw [e];simp [bitsF]
theorem bits_D (r):bitsF (fD r)=eD r:=by unfold fD eD;rw [bitsF_append,bitsF_append,bits_K,bits_X];simp [bitsF]
theorem bits_M (m:Msg):bitsF (fM m)=eM m:=by
 unfold fM eM;rw [bitsF_append];have e:bitsF [((m.kd - 1).toNat,(2:Int))]=bo (m.kd - 1).toNat 2:=by simp [bitsF]
 rw [e]
 congr 1
 split
 ·exact bits_R _
 ·split
  ·exact bits_Q _
  ·split
   ·exact bits_P _
   ·exact bits_D _
/- All of them are right. -/
theorem okF_nat {v q:Nat} (h1:1≤q) (h2:q≤64) (h3:v<2^q):okF (v,(q:Int))=true:=by
 unfold okF Bt.gw;simp;exact ⟨⟨by omega,by omega⟩,h3⟩
theorem okF_fit {v:Int} {q:Nat} (h1:1≤q) (h2:q≤64) (h:fitI q v):okF (v.toNat,(q:Int))=true:=by
 obtain ⟨a,b⟩:=h;refine okF_nat h1 h2 ?_;have e:((v.toNat:Nat):Int)=v:=Int.toNat_of_nonneg a;have:((v.toNat:Nat):Int)<((2^q:Nat):Int):=by rw [e];simpa using b
 exact Int.ofNat_lt.1 this
theorem all_S {s:Int×Int} (h:fitI 8 s.1∧fitI 6 s.2):∀x∈fS s,okF x=true:=by
 intro x hx;simp only [fS,List.mem_cons,List.not_mem_nil,or_false] at hx;rcases hx with rfl | rfl
 ·exact okF_fit (q:=8) (by decide) (by decide) h.1
 ·exact okF_fit (q:=6) (by decide) (by decide) h.2
theorem all_K {k:Int×Int} (h:gK k=true):∀x∈fK k,okF x=true:=by
 have:=gK_iff.1 h;intro x hx;simp only [fK,List.mem_cons,List.not_mem_nil,or_false] at hx;rcases hx with rfl | rfl
 ·exact okF_fit (q:=16) (by decide) (by decide) ⟨by omega,by show _<(65536:Int);omega⟩
 ·exact okF_fit (q:=8) (by decide) (by decide) ⟨by omega,by show _<(256:Int);omega⟩
theorem all_app {a b:List (Nat×Int)} (h1:∀x∈a,okF x=true) (h2:∀x∈b,okF x=true):∀x∈a++b,okF x=true:=by
 intro x hx;rcases List.mem_append.1 hx with h | h
 ·exact h1 x h
 ·exact h2 x h
theorem all_B {b:(Int×Int)×(Int×Int)} (h:gK b.1=true∧gK b.2=true):∀x∈fB b,okF x=true:=all_app (all_K h.1) (all_K h.2)
theorem all_one {v q:Nat} (h1:1≤q) (h2:q≤64) (h3:v<2^q):∀x∈[(v,(q:Int))],okF x=true:=by
 intro x hx;simp only [List.mem_cons,List.not_mem_nil,or_false] at hx;subst hx;exact okF_nat h1 h2 h3
theorem all_fit {v:Int} {q:Nat} (h1:1≤q) (h2:q≤64) (h:fitI q v):∀x∈[(v.toNat,(q:Int))],okF x=true:=by
 intro x hx;simp only [List.mem_cons,List.not_mem_nil,or_false] at hx;subst hx;exact okF_fit h1 h2 h
theorem all_flat {α:Type} {f:α→List (Nat×Int)} {l:List α} (h:∀y∈l,∀x∈f y,okF x=true):∀x∈l.flatMap f,okF x=true:=by
 intro x hx;obtain ⟨y,hy,hx⟩:=List.mem_flatMap.1 hx;exact h y hy x hx
theorem all_M {m:Msg} (h:gM m=true):∀x∈fM m,okF x=true:=by
 rcases gM_ok h with ⟨o,e⟩ | ⟨o,e⟩ | ⟨o,e⟩ | ⟨o,e⟩ <;> rw [e]
 ·refine all_app (all_one (q:=2) (by decide) (by decide) (by show (_:Nat)<4;first | exact (by decide:(0:Nat)<4) | exact (by decide:(1:Nat)<4) | exact (by decide:(2:Nat)<4) | exact (by decide:(3:Nat)<4))) ?_;obtain ⟨o1,⟨o2,o3⟩,⟨o4,o5⟩,o6,o7⟩:=o;refine all_app (all_fit (q:=8) (by decide) (by decide) o1) (all_app (all_app (all_one (q:=7) (by decide) (by decide) o2) (all_flat fun y hy=>all_S (o3 y hy))) (all_app (all_app (all_one (q:=7) (by decide) (by decide) o4) (all_flat fun y hy=>all_S (o5 y hy))) (all_app (all_one (q:=11) (by decide) (by decide) o6) (all_flat fun y hy=>?_))));have h:=o7 y hy;exact all_app (all_app (all_fit (q:=5) (by decide) (by decide) h.1.1) (all_fit (q:=7) (by decide) (by decide) h.1.2)) (all_B h.2)
 ·refine all_app (all_one (q:=2) (by decide) (by decide) (by show (_:Nat)<4;first | exact (by decide:(0:Nat)<4) | exact (by decide:(1:Nat)<4) | exact (by decide:(2:Nat)<4) | exact (by decide:(3:Nat)<4))) ?_;exact all_app (all_fit (q:=8) (by decide) (by decide) o.1) (all_fit (q:=8) (by decide) (by decide) o.2)
 ·refine all_app (all_one (q:=2) (by decide) (by decide) (by show (_:Nat)<4;first | exact (by decide:(0:Nat)<4) | exact (by decide:(1:Nat)<4) | exact (by decide:(2:Nat)<4) | exact (by decide:(3:Nat)<4))) ?_;exact all_app (all_S o.1) (all_app (all_fit (q:=8) (by decide) (by decide) o.2.1) (all_app (all_B o.2.2.1) (all_app (all_B o.2.2.2.1) (all_B o.2.2.2.2))))
 ·refine all_app (all_one (q:=2) (by decide) (by decide) (by show (_:Nat)<4;first | exact (by decide:(0:Nat)<4) | exact (by decide:(1:Nat)<4) | exact (by decide:(2:Nat)<4) | exact (by decide:(3:Nat)<4))) ?_;refine all_app (all_fit (q:=8) (by decide) (by decide) o.1) (all_app (all_K o.2.1) (all_app (all_one (q:=7) (by decide) (by decide) o.2.2) ?_));intro x hx;obtain ⟨n,hn,rfl⟩:=List.mem_map.1 hx;exact okF_nat (q:=8) (by decide) (by decide) (bys_lt _ n hn)
theorem flat_len {α:Type} (f:α→List (Nat×Int)) (k:Nat) (h:∀x,(f x).length=k):∀l:List α,(l.flatMap f).length=k * l.length
 | []=>by simp
 | x::l=>by rw [List.flatMap_cons,List.length_append,h,flat_len f k h l,List.length_cons,Nat.mul_succ,Nat.add_comm]
theorem fM_len {m:Msg} (h:gM m=true):(fM m).length≤16384:=by
 rcases gM_ok h with ⟨o,e⟩ | ⟨o,e⟩ | ⟨o,e⟩ | ⟨o,e⟩ <;> rw [e]
 ·obtain ⟨o1,⟨o2,o3⟩,⟨o4,o5⟩,o6,o7⟩:=o;show ([(0,2)]++fR m.rk).length≤_
  simp only [fR,fL,List.length_append,List.length_cons,List.length_nil,flat_len fS 2 (fun _=>rfl),flat_len fI 6 (fun _=>rfl)];omega
 ·show ([(1,2)]++fQ m.rq).length≤_
  simp [fQ]
 ·show ([(2,2)]++fP m.rp).length≤_
  simp [fP,fS,fB,fK]
 ·obtain ⟨o1,o2,o3⟩:=o;show ([(3,2)]++fD m.sd).length≤_
  simp only [fD,fX,fK,List.length_append,List.length_cons,List.length_nil,List.length_map,bys_length];omega
theorem en_pk {m:Msg} (h:gM m=true):pkS (fM m)=enS m∧pkE (fM m)=0:=by
 have ha:(fM m).all okF=true:=List.all_eq_true.2 (all_M h);unfold pkS pkE enS;rw [ha,h,bits_M];exact ⟨rfl,rfl⟩
theorem eM_len {m:Msg} (h:gM m=true):(eM m).length≤1048576:=by
 have h1:=Bt.bitsF_le (fM m) (all_M h);have h2:=fM_len h;rw [bits_M] at h1;omega
theorem en_small (m:Msg):(enS m).size≤131073:=by
 cases h:gM m with
 | true=>rw [en_size h];have:=eM_len h;omega
 | false=>unfold enS;rw [h];simp [tx_size]
open Go.RowKit Go.Maps
theorem ret_bool {a b:Bool} (h:a=b):Ending.returned (.bool a)=.returned (.bool b):=by rw [h]
theorem below_alloc (w:World) (o:Obj):Below w.heap.size w (w.alloc o):=(Below.refl _ w).alloc (Nat.le_refl _) _
theorem drew_below (w:World):Below w.heap.size w w.drew:=⟨rfl,rfl,rfl,Nat.le_refl _,fun _ _=>rfl⟩
theorem Below.join {w0 w w':World} (h:Below w0.heap.size w0 w) (hb:Below w.heap.size w w'):Below w0.heap.size w0 w':=h.trans (hb.mono h.size)
theorem Below.plus {w0 w:World} (h:Below w0.heap.size w0 w) (o:Obj):Below w0.heap.size w0 (w.alloc o):=h.alloc h.size _
theorem row_set {w:World} {B:Nat} {cs:Array Value} {t:TypeId} (h:w.heap[B]? =some (.cells cs t (0,0))) (k:Nat) (v:Value):(w.setCell ⟨B,k,none⟩ v).heap[B]? =some (.cells (cs.setIfInBounds k v) t (0,0)):=by
 simp only [World.setCell,Array.getElem?_modify];rw [if_pos trivial,h];rfl
theorem row_fr {w:World} {B:Nat} {cs:Array Value} {t:TypeId} (h:w.heap[B]? =some (.cells cs t (0,0))) (k:Nat):w.frozen? ⟨B,k,none⟩=false:=by simp [World.frozen?,h]
theorem row_lt {w:World} {B:Nat} {o:Obj} (h:w.heap[B]? =some o):B<w.heap.size:=(Array.getElem?_eq_some_iff.1 h).1
theorem row_later {w w':World} {B:Nat} {o:Obj} (h:w.heap[B]? =some o) (hb:Below w.heap.size w w'):w'.heap[B]? =some o:=(hb.block B (row_lt h)).trans h
theorem row_ne {w:World} {B C:Nat} {cs ds:Array Value} {t u:TypeId} {x y:Nat×Nat} (h:w.heap[B]? =some (.cells cs t x)) (k:w.heap[C]? =some (.cells ds u y)) (hne:t≠u):B≠C:=by
 intro e;subst e;rw [h] at k;simp at k;exact hne k.2.1
theorem rd_guard {w:World} {ops:Array Oper} {rest:List Oper} {o:Oper} {a:Act} {Q:Exit→Act→World→Prop} {v:Value} (hw:Region.wanted o (yielded ops a.tmps)=true) (hrun:(execOp a.eval o).run Tryz.prog w=.ok (.value v) w)
  (k:wpList Tryz.prog ops Q rest (a.put o.dst v) w):wpList Tryz.prog ops Q (o::rest) a w:=by
 refine wpList_step fun K hK=>?_
 rw [if_pos hw];unfold Oper.wp;rw [hrun,Oper.upon_value];exact hK _ _ k
/- A part of a row, loaded as one value: an arm of the walk. -/
theorem ldM {w:World} {ops:Array Oper} {rest:List Oper} {o:Oper} {a:Act} {Q:Exit→Act→World→Prop} {B off:Nat} {T:TypeId} {d:TypeDesc} {cs:List Value} (hc:w.rangeAt B off cs) (hu:Tryz.prog.underlying T=some d) (hd:d.isRow=true)
  (hi:(Tryz.prog.info? T).map (·.size)=some cs.length) (x:Operand) (ho:o.op=.load T x) (hx:a.eval x=.pointer (some ⟨B,off,none⟩)) (hw:Region.wanted o (yielded ops a.tmps)=true)
  (k:wpList Tryz.prog ops Q rest (a.put o.dst (.agg cs.toArray)) w):wpList Tryz.prog ops Q (o::rest) a w:=by
 refine rd_guard hw ?_ k;have h:=run_loadAt_mid w B off T cs d hc hu hd hi;simp [execOp,ho,hx,h,Sem.run_bind,Result.andThen]
/- One stored. -/
theorem stM {w:World} {ops:Array Oper} {rest:List Oper} {o:Oper} {a:Act} {Q:Exit→Act→World→Prop} {B off:Nat} {T:TypeId} {cs:List Value} (ht:w.there B off cs.length) (hi:(Tryz.prog.info? T).map (·.size)=some cs.length) (h1:cs.all (·.oneCell')=true) (hgd:o.guard=none)
  (x y:Operand) (ho:o.op=.store T x y) (hx:a.eval x=.pointer (some ⟨B,off,none⟩)) (hy:a.eval y=.agg cs.toArray)
  (k:wpList Tryz.prog ops Q rest (a.put o.dst undef) (w.setCells B off cs)):wpList Tryz.prog ops Q (o::rest) a w:=
 wpList_store_mid hgd T x y ho B off cs.toArray hx hy (by simpa using ht) (by simpa using hi) (by simpa using h1) (by simpa using k)
def upd:Array Value→Nat→List Value→Array Value
 | cs,_,[]=>cs
 | cs,o,v::r=>upd (cs.setIfInBounds o v) (o+1) r
theorem row_upd {B:Nat} {t:TypeId}:∀(vs:List Value) (o:Nat) {w:World} {cs:Array Value},w.heap[B]? =some (.cells cs t (0,0))→(w.setCells B o vs).heap[B]? =some (.cells (upd cs o vs) t (0,0))
 | [],o,w,cs,h=>h
 | v::r,o,w,cs,h=>by
  rw [World.setCells,upd];exact row_upd r (o+1) (row_set h o v)
theorem upd_below {B N:Nat} (hB:N≤B):∀(vs:List Value) (o:Nat) {w0 w:World},Below N w0 w→Below N w0 (w.setCells B o vs)
 | [],o,w0,w,h=>h
 | v::r,o,w0,w,h=>by
  rw [World.setCells];exact upd_below hB r (o+1) (h.setCell (p:=⟨B,o,none⟩) hB v)
theorem ra_of {w:World} {B:Nat} {cs:Array Value} {t:TypeId} {fz:Nat×Nat} (h:w.heap[B]? =some (.cells cs t fz)) (o:Nat) (ds:List Value) (e:(cs.toList.drop o).take ds.length=ds):w.rangeAt B o ds:=fun j v hv=>by
 rw [cell_of_row w B (o+j) cs t fz h];have hj:j<ds.length:=(List.getElem?_eq_some_iff.1 hv).1;rw [←e,List.getElem?_take_of_lt hj,List.getElem?_drop] at hv
 simpa using hv
theorem th_of {w:World} {B:Nat} {cs:Array Value} {t:TypeId} (h:w.heap[B]? =some (.cells cs t (0,0))) (o n:Nat) (e:o+n≤cs.size):w.there B o n:=fun j hj=>by
 refine ⟨?_,row_fr h _⟩;rw [cell_of_row w B (o+j) cs t _ h,Array.getElem?_eq_getElem (by omega)];rfl
theorem ra_later {w w':World} {b o:Nat} {cs:List Value} (h:w.rangeAt b o cs) (hb:Below w.heap.size w w'):w'.rangeAt b o cs:=fun j v hv=>cell_later hb (h j v hv)
/- Lists that can be read. -/
def RdV {α:Type} (f:α→List Value) (n:Nat) (w:World) (a:Option Addr) (l:List α):Prop:=∀(i:Nat) (h:i<l.length),∃b o,a=some ⟨b,o,none⟩∧w.rangeAt b (o+i * n) (f l[i])
theorem RdV.later {α:Type} {f:α→List Value} {n:Nat} {w w':World} {a:Option Addr} {l:List α} (h:RdV f n w a l) (hb:Below w.heap.size w w'):RdV f n w' a l:=fun i hi=>by
 obtain ⟨b,o,e,r⟩:=h i hi;exact ⟨b,o,e,ra_later r hb⟩
theorem RdV.nil {α:Type} (f:α→List Value) (n:Nat) (w:World) (a:Option Addr):RdV f n w a []:=fun i hi=>by cases hi
/- The parts as cells. -/
def stl (s:Int×Int):List Value:=[.int .i64 s.1,.int .i64 s.2]
def bxl (b:(Int×Int)×(Int×Int)):List Value:=[.int .i64 b.1.1,.int .i64 b.1.2,.int .i64 b.2.1,.int .i64 b.2.2]
def itl (i:(Int×Int)×((Int×Int)×(Int×Int))):List Value:=[.int .i64 i.1.1,.int .i64 i.1.2,.int .i64 i.2.1.1,.int .i64 i.2.1.2,.int .i64 i.2.2.1,.int .i64 i.2.2.2]
def rkl (e:Int) (vL vJ vI:Value):List Value:=[.int .i64 e,vL,vJ,vI]
def rpl (p:(Int×Int)×(Int×(((Int×Int)×(Int×Int))×(((Int×Int)×(Int×Int))×((Int×Int)×(Int×Int)))))):List Value:=
 [.int .i64 p.1.1,.int .i64 p.1.2,.int .i64 p.2.1,.int .i64 p.2.2.1.1.1,.int .i64 p.2.2.1.1.2,.int .i64 p.2.2.1.2.1,.int .i64 p.2.2.1.2.2,.int .i64 p.2.2.2.1.1.1,.int .i64 p.2.2.2.1.1.2,.int .i64 p.2.2.2.1.2.1,.int .i64 p.2.2.2.1.2.2,.int .i64 p.2.2.2.2.1.1,.int .i64 p.2.2.2.2.1.2,.int .i64 p.2.2.2.2.2.1,.int .i64 p.2.2.2.2.2.2]
def sdl (d:Int×((Int×Int)×ByteArray)):List Value:=[.int .i64 d.1,.int .i64 d.2.1.1,.int .i64 d.2.1.2,.string d.2.2]
def mgl (m:Msg) (vL vJ vI:Value):List Value:=.int .i64 m.kd::(rkl m.rk.1 vL vJ vI++(stl m.rq++(rpl m.rp++sdl m.sd)))
theorem szSeat:(Tryz.prog.info? 165).map (·.size)=some 2:=by kernel_rfl
theorem szBox:(Tryz.prog.info? 85).map (·.size)=some 4:=by kernel_rfl
theorem szItem:(Tryz.prog.info? 121).map (·.size)=some 6:=by kernel_rfl
theorem szKey:(Tryz.prog.info? 46).map (·.size)=some 2:=by kernel_rfl
theorem szRk:(Tryz.prog.info? 78).map (·.size)=some 4:=by kernel_rfl
theorem szRq:(Tryz.prog.info? 83).map (·.size)=some 2:=by kernel_rfl
theorem szRp:(Tryz.prog.info? 88).map (·.size)=some 15:=by kernel_rfl
theorem szSd:(Tryz.prog.info? 90).map (·.size)=some 4:=by kernel_rfl
theorem szMg:(Tryz.prog.info? 92).map (·.size)=some 26:=by kernel_rfl
end Go.Proofs.YtoimkngkcliinaaGreatDoor.Wi
