/- WiB, WiE, WiC, WiD, WiR, WiL, WiM, WiO, WiG1, joined. -/
import Derived.Test.YtanaapfobpgibaaGreatDoorJWiMath
import Derived.WalkLawsBesides
open Go.Proofs.Tryz
set_option maxHeartbeats 2000000
namespace Go.Proofs.YtanaapfobpgibaaGreatDoor.Wi
open Go.RowKit Go.Maps
set_option linter.unusedVariables false
set_option linter.unusedSimpArgs false
variable {α:Type} {k:Nat}
theorem lX {p:α→Bool} {l:List α} (h:k<l.length) (h1:∀x∈l.take k,p x=true) (h2:p l[k]=true):∀x∈l.take (k+1),p x=true:=fun x hx=>by
 rw [List.take_succ_eq_append_getElem h] at hx;rcases List.mem_append.1 hx with hx | hx
 ·exact h1 x hx
 ·simp only [List.mem_cons,List.not_mem_nil,or_false] at hx;rw [hx];exact h2
theorem e9 {p:α→Bool} {l:List α} (h:k<l.length) (h2:p l[k]=false):l.all p=false:=by
 rw [Bool.eq_false_iff];intro ha;rw [List.all_eq_true] at ha;rw [ha l[k] (List.getElem_mem h)] at h2;cases h2
theorem gm {p:α→Bool} {l:List α} (h:∀x∈l.take l.length,p x=true):l.all p=true:=by
 rw [List.take_length] at h;exact List.all_eq_true.2 h
set_option maxRecDepth 100000 in
theorem Ec (a:Option Addr) (c mx:Nat) (l:List (Int×Int)) (w:World) (rd:iG iI 2 w a l) (hl:l.length<4611686018427387904) (hmx:mx≤4096):
  Calls prog 220 #[.slice a l.length c,.int .i64 (mx:Int),.func (.func 221) #[] #[]] w fun e w'=>e=.returned (.bool (decide (l.length≤mx)&&l.all gS))∧Below w.heap.size w w':=by
 obtain ⟨n,hn⟩:∃n,l.length=n:=⟨_,rfl⟩;have HN:Hid (l.length=n):=hn;rw [hn] at hl;rw [hn];clear hn;by_cases hm:n≤mx
 ·have HE:Hid ((decide (n≤mx)&&l.all gS)=l.all gS):=by unfold Hid;rw [decide_eq_true hm,Bool.true_and]
  rw [HE.out];have d1:decide ((mx:Int)<(n:Int))=false:=by simp;omega
  have d2:¬(mx:Int)<(n:Int):=by omega
  clear HE;go_enter func220,ntmps220;go_wp2_with fail
  go_loopw [15] (fun i wx=>∃k:Nat,k≤n∧i=.int .i64 (k:Int)∧(∀x∈l.take k,gS x=true)∧Below w.heap.size w wx) (fun i _=>n - (intOf i).toNat)
  case atStart=>exact ⟨0,by omega,rfl,by simp,Below.refl _ _⟩
  case round=>
   obtain ⟨k,hk,rfl,hA,hb⟩:=hrel;have HA:Hid (∀x∈l.take k,gS x=true):=hA;have HB:Hid (Below w.heap.size w wr):=hb;clear hA hb;by_cases cE:k<n
   ·have iw:k<l.length:=by rw [HN.out];exact cE
    obtain ⟨b,o,rfl,hr⟩:=rd k iw;have hr:=ej hr HB.out;unfold iI at hr;have i1:(0:Int)≤(k:Int):=by omega
    have i2:(k:Int)<(n:Int):=by omega
    have hC:=AV l[k]
    cases hg:gS l[k] with
    | false=>
     rw [hg] at hC;have HE:Hid (l.all gS=false):=e9 iw hg;generalize l[k]=p at *;clear hg;go_wp2_with (refine kg hr underlying113 rfl ju _ rfl rfl rfl ?_)
     refine (hC _).mono ?_;rintro r w2 ⟨rfl,hb2⟩;have bm:Hid (Below w.heap.size w w2):=Below.join (Below.plus HB.out _) hb2;clear hb2 hC;go_wp2_with fail
     go_ret;exact ⟨ae HE.out.symm,bm.out⟩
    | true=>
     rw [hg] at hC;have Mx:Hid (∀x∈l.take (k+1),gS x=true):=lX iw HA.out hg;generalize l[k]=p at *;clear hg;go_wp2_with (refine kg hr underlying113 rfl ju _ rfl rfl rfl ?_)
     refine (hC _).mono ?_;rintro r w2 ⟨rfl,hb2⟩;have bm:Hid (Below w.heap.size w w2):=Below.join (Below.plus HB.out _) hb2;clear hb2 hC;go_wp2_with fail
     go_roundw
     case rel=>exact ⟨k+1,by omega,by go_num,Mx.out,bm.out⟩
     case measure=>simp [intOf];omega
   ·have iX:decide ((k:Int)<(n:Int))=false:=by simp;omega
    have HE:Hid (l.all gS=true):=gm (by rw [HN.out];have:k=n:=(by omega);rw [←this];exact HA.out);go_wp2_with fail
    go_ret;exact ⟨ae HE.out.symm,HB.out⟩
 ·have HE:Hid ((decide (n≤mx)&&l.all gS)=false):=by unfold Hid;rw [decide_eq_false hm];rfl
  rw [HE.out];have d1:(mx:Int)<(n:Int):=by omega
  clear HE;go_enter func220,ntmps220;go_wp2_with fail
  go_ret;exact ⟨rfl,Below.refl _ _⟩
set_option maxRecDepth 100000 in
theorem RH (a:Option Addr) (c mx:Nat) (l:List ((Int×Int)×((Int×Int)×(Int×Int)))) (w:World) (rd:iG mW 6 w a l) (hl:l.length<4611686018427387904) (hmx:mx≤4096):
  Calls prog 222 #[.slice a l.length c,.int .i64 (mx:Int),.func (.func 223) #[] #[]] w fun e w'=>e=.returned (.bool (decide (l.length≤mx)&&l.all gI))∧Below w.heap.size w w':=by
 obtain ⟨n,hn⟩:∃n,l.length=n:=⟨_,rfl⟩;have HN:Hid (l.length=n):=hn;rw [hn] at hl;rw [hn];clear hn;by_cases hm:n≤mx
 ·have HE:Hid ((decide (n≤mx)&&l.all gI)=l.all gI):=by unfold Hid;rw [decide_eq_true hm,Bool.true_and]
  rw [HE.out];have d1:decide ((mx:Int)<(n:Int))=false:=by simp;omega
  have d2:¬(mx:Int)<(n:Int):=by omega
  clear HE;go_enter func222,ntmps222;go_wp2_with fail
  go_loopw [15] (fun i wx=>∃k:Nat,k≤n∧i=.int .i64 (k:Int)∧(∀x∈l.take k,gI x=true)∧Below w.heap.size w wx) (fun i _=>n - (intOf i).toNat)
  case atStart=>exact ⟨0,by omega,rfl,by simp,Below.refl _ _⟩
  case round=>
   obtain ⟨k,hk,rfl,hA,hb⟩:=hrel;have HA:Hid (∀x∈l.take k,gI x=true):=hA;have HB:Hid (Below w.heap.size w wr):=hb;clear hA hb;by_cases cE:k<n
   ·have iw:k<l.length:=by rw [HN.out];exact cE
    obtain ⟨b,o,rfl,hr⟩:=rd k iw;have hr:=ej hr HB.out;unfold mW at hr;have i1:(0:Int)≤(k:Int):=by omega
    have i2:(k:Int)<(n:Int):=by omega
    have hC:=AW l[k]
    cases hg:gI l[k] with
    | false=>
     rw [hg] at hC;have HE:Hid (l.all gI=false):=e9 iw hg;generalize l[k]=p at *;clear hg;go_wp2_with (refine kg hr underlying103 rfl gh _ rfl rfl rfl ?_)
     refine (hC _).mono ?_;rintro r w2 ⟨rfl,hb2⟩;have bm:Hid (Below w.heap.size w w2):=Below.join (Below.plus HB.out _) hb2;clear hb2 hC;go_wp2_with fail
     go_ret;exact ⟨ae HE.out.symm,bm.out⟩
    | true=>
     rw [hg] at hC;have Mx:Hid (∀x∈l.take (k+1),gI x=true):=lX iw HA.out hg;generalize l[k]=p at *;clear hg;go_wp2_with (refine kg hr underlying103 rfl gh _ rfl rfl rfl ?_)
     refine (hC _).mono ?_;rintro r w2 ⟨rfl,hb2⟩;have bm:Hid (Below w.heap.size w w2):=Below.join (Below.plus HB.out _) hb2;clear hb2 hC;go_wp2_with fail
     go_roundw
     case rel=>exact ⟨k+1,by omega,by go_num,Mx.out,bm.out⟩
     case measure=>simp [intOf];omega
   ·have iX:decide ((k:Int)<(n:Int))=false:=by simp;omega
    have HE:Hid (l.all gI=true):=gm (by rw [HN.out];have:k=n:=(by omega);rw [←this];exact HA.out);go_wp2_with fail
    go_ret;exact ⟨ae HE.out.symm,HB.out⟩
 ·have HE:Hid ((decide (n≤mx)&&l.all gI)=false):=by unfold Hid;rw [decide_eq_false hm];rfl
  rw [HE.out];have d1:(mx:Int)<(n:Int):=by omega
  clear HE;go_enter func222,ntmps222;go_wp2_with fail
  go_ret;exact ⟨rfl,Below.refl _ _⟩
set_option maxRecDepth 100000
variable {w:World} {T:TypeId} {cx cy:Array Value} {b:Bool} {o:Oper} {a:Act}
theorem qb (T:TypeId) (d:Nat) (x y:Int×Int) (h:T=31∨T=113∨T=59):(Op.equalIn (d+2) T (.agg (iI x).toArray) (.agg (iI y).toArray)).run prog w=.ok (decide (x=y)) w:=by
 obtain ⟨a,b⟩:=x;obtain ⟨c,e⟩:=y;unfold iI;rcases h with rfl | rfl | rfl <;> rw [run_equalIn_agg w (d+1) _ _ _ (by kernel_rfl) (by kernel_rfl)] <;> by_cases h1:a=c <;> by_cases h2:b=e <;> simp [go_sem,part,h1,h2]
theorem qc (d:Nat) (x y:(Int×Int)×(Int×Int)):(Op.equalIn (d+3) 61 (.agg (bxl x).toArray) (.agg (bxl y).toArray)).run prog w=.ok (decide (x=y)) w:=by
 obtain ⟨⟨a,b⟩,c,e⟩:=x;obtain ⟨⟨a',b'⟩,c',e'⟩:=y;unfold bxl;rw [run_equalIn_agg w (d+2) _ _ _ (by kernel_rfl) (by kernel_rfl)];by_cases h1:a=a' <;> by_cases h2:b=b' <;> by_cases h3:c=c' <;> by_cases h4:e=e' <;> simp [go_sem,part,h1,h2,h3,h4]
theorem Ct (d:Nat) (x y:(Int×Int)×((Int×Int)×(Int×Int))):(Op.equalIn (d+4) 103 (.agg (mW x).toArray) (.agg (mW y).toArray)).run prog w=.ok (decide (x=y)) w:=by
 obtain ⟨⟨v,u⟩,bx⟩:=x;obtain ⟨⟨v',u'⟩,bx'⟩:=y;have e1:=qc (w:=w) d bx bx';unfold bxl at e1;unfold mW;rw [run_equalIn_agg w (d+3) _ _ _ (by kernel_rfl) (by kernel_rfl)];obtain ⟨⟨a,b⟩,c,e⟩:=bx;obtain ⟨⟨a',b'⟩,c',e'⟩:=bx';clear e1;by_cases h1:v=v' <;> by_cases h2:u=u' <;> simp [go_sem,part,h1,h2]
 by_cases h1:a=a' <;> by_cases h2:b=b' <;> by_cases h3:c=c' <;> by_cases h4:e=e' <;> simp [go_sem,part,h1,h2,h3,h4]
theorem ZG {X Y:ByteArray}:X.toList=Y.toList↔X=Y:=by
 rw [ByteArray.toList_eq,ByteArray.toList_eq];exact ⟨fun e=>ByteArray.ext (Array.ext' e),fun e=>by rw [e]⟩
theorem Cq (d:Nat) (x y:Int×((Int×Int)×ByteArray)):(Op.equalIn (d+3) 66 (.agg (Ti x).toArray) (.agg (Ti y).toArray)).run prog w=.ok (decide (x=y)) w:=by
 obtain ⟨a,⟨b,c⟩,s⟩:=x;obtain ⟨a',⟨b',c'⟩,s'⟩:=y;unfold Ti;rw [run_equalIn_agg w (d+2) _ _ _ (by kernel_rfl) (by kernel_rfl)];by_cases h1:a=a' <;> by_cases h2:b=b' <;> by_cases h3:c=c' <;> by_cases h4:s=s' <;> simp [go_sem,part,h1,h2,h3,h4,ZG]
def pal (x y z:(Int×Int)×(Int×Int)):List Value:=[.int .i64 x.1.1,.int .i64 x.1.2,.int .i64 x.2.1,.int .i64 x.2.2,.int .i64 y.1.1,.int .i64 y.1.2,.int .i64 y.2.1,.int .i64 y.2.2,.int .i64 z.1.1,.int .i64 z.1.2,.int .i64 z.2.1,.int .i64 z.2.2]
theorem T8:(prog.info? 61).isSome=true:=by kernel_rfl
theorem Q5:prog.cellsOf 61=4:=by kernel_rfl
theorem Nu (d:Nat) (x y z x' y' z':(Int×Int)×(Int×Int)):(Op.equalIn (d+4) 62 (.agg (pal x y z).toArray) (.agg (pal x' y' z').toArray)).run prog w=.ok (decide (x=x')&&(decide (y=y')&&decide (z=z'))) w:=by
 obtain ⟨i,hi⟩:=Option.isSome_iff_exists.mp T8;rw [run_equalIn_array w (d+3) _ _ underlying62 hi,Q5];have h1:=qc (w:=w) d x x';have h2:=qc (w:=w) d y y';have h3:=qc (w:=w) d z z';unfold bxl at h1 h2 h3;unfold pal;obtain ⟨a,ha⟩:∃a,decide (x=x')=a:=⟨_,rfl⟩;obtain ⟨b,hb⟩:∃a,decide (y=y')=a:=⟨_,rfl⟩;obtain ⟨c,hc⟩:∃a,decide (z=z')=a:=⟨_,rfl⟩;rw [ha] at h1;rw [hb] at h2;rw [hc] at h3;rw [ha,hb,hc];cases a <;> cases b <;> cases c <;> simp [List.range,List.range.loop,Op.eqItems,Sem.run_bind,Sem.run_ite,part,Result.andThen_ok,h1,h2,h3]
theorem Cr (d:Nat) (p q:(Int×Int)×(Int×(((Int×Int)×(Int×Int))×(((Int×Int)×(Int×Int))×((Int×Int)×(Int×Int)))))):(Op.equalIn (d+5) 64 (.agg (mz p).toArray) (.agg (mz q).toArray)).run prog w=.ok (decide (p=q)) w:=by
 obtain ⟨⟨a,b⟩,c,x,y,z⟩:=p;obtain ⟨⟨a',b'⟩,c',x',y',z'⟩:=q;have h:=Nu (w:=w) d x y z x' y' z';unfold pal at h;unfold mz;rw [run_equalIn_agg w (d+4) _ _ _ (by kernel_rfl) (by kernel_rfl)]
 have e:decide ((((a,b),c,x,y,z):(Int×Int)×(Int×(((Int×Int)×(Int×Int))×(((Int×Int)×(Int×Int))×((Int×Int)×(Int×Int))))))=((a',b'),c',x',y',z'))=(decide (a=a')&&(decide (b=b')&&(decide (c=c')&&(decide (x=x')&&(decide (y=y')&&decide (z=z')))))):=by
  simp [and_assoc]
 rw [e];obtain ⟨g,hg⟩:∃g,(decide (x=x')&&(decide (y=y')&&decide (z=z')))=g:=⟨_,rfl⟩;rw [hg] at h;rw [hg];clear hg e;cases g <;> by_cases h1:a=a' <;> by_cases h2:b=b' <;> by_cases h3:c=c' <;> simp [go_sem,part,h,h1,h2,h3]
/- The arms of the walk. -/
theorem BS {ops:Array Oper} {rest:List Oper} {Q:Exit→Act→World→Prop} (h:(Op.equalIn 10000 T (.agg cx) (.agg cy)).run prog w=.ok b w) (YO:prog.eqGuardType prog.depth T=false) (x y:Operand) (ho:o.op=.binOp .eql T x y T)
  (hx:a.eval x=.agg cx) (hy:a.eval y=.agg cy) (hw:Region.wanted o (yielded ops a.tmps)=true) (k:wpList prog ops Q rest (a.put o.dst (.bool b)) w):wpList prog ops Q (o::rest) a w:=by
 refine fe hw ?_ k;have h1:=run_eqGuard_agg (P:=prog) w .eql T x y cx cy YO;have h2:=run_eql_struct (P:=prog) w T cx cy;rw [h] at h2;simp [execOp,ho,hx,hy,h1,h2,Sem.run_bind,Result.andThen]
theorem uH {x y:Operand} (h:(Op.equalIn 10000 T (.agg cx) (.agg cy)).run prog w=.ok b w) (YO:prog.eqGuardType prog.depth T=false) (ho:o.op=.binOp .neq T x y T)
  (hx:a.eval x=.agg cx) (hy:a.eval y=.agg cy):(execOp a.eval o).run prog w=.ok (.value (.bool (!b))) w:=by
 have h1:=run_eqGuard_agg (P:=prog) w .neq T x y cx cy YO;have h2:=run_neq_struct (P:=prog) w T cx cy;rw [h] at h2;simp [execOp,ho,hx,hy,h1,h2,Sem.run_bind,Result.andThen]
open Rt (gd)
theorem c4 {w:World} {B:Nat} {a b c d:Value} {t:TypeId} (h:w.heap[B]? =some (.cells #[a,b,c,d] t (0,0))):w.cell? ⟨B,0,none⟩=some a∧w.cell? ⟨B,1,none⟩=some b∧w.cell? ⟨B,2,none⟩=some c∧w.cell? ⟨B,3,none⟩=some d:=
 ⟨cell_of_row w B 0 _ _ _ h,cell_of_row w B 1 _ _ _ h,cell_of_row w B 2 _ _ _ h,cell_of_row w B 3 _ _ _ h⟩
set_option maxRecDepth 100000 in
theorem yf (r:Int×(List (Int×Int)×(List (Int×Int)×List ((Int×Int)×((Int×Int)×(Int×Int)))))) (aL aJ aI:Option Addr) (cL cJ cI:Nat) (w:World) (rL:iG iI 2 w aL r.2.1) (rJ:iG iI 2 w aJ r.2.2.1) (rI:iG mW 6 w aI r.2.2.2) (nL:r.2.1.length<4611686018427387904) (nJ:r.2.2.1.length<4611686018427387904) (nI:r.2.2.2.length<4611686018427387904):
  Calls prog 162 #[.agg (vy r.1 (.slice aL r.2.1.length cL) (.slice aJ r.2.2.1.length cJ) (.slice aI r.2.2.2.length cI)).toArray] w fun e w'=>e=.returned (.bool (gR r))∧Below w.heap.size w w':=by
 obtain ⟨e,L,J,I⟩:=r;dsimp only at *;have HG:Hid (gR (e,L,J,I)=(gE e&&((decide (L.length≤64)&&L.all gS)&&((decide (J.length≤64)&&J.all gS)&&(decide (I.length≤1536)&&I.all gI))))):=rfl;have hE:=yg e;have h1:∀W,Below w.heap.size w W→Calls prog 220 #[.slice aL L.length cL,.int .i64 64,.func (.func 221) #[] #[]] W fun e w'=>e=.returned (.bool (decide (L.length≤64)&&L.all gS))∧Below W.heap.size W w':=fun W hb=>Ec aL cL 64 L W (rL.later hb) nL (by omega)
 have h2:∀W,Below w.heap.size w W→Calls prog 220 #[.slice aJ J.length cJ,.int .i64 64,.func (.func 221) #[] #[]] W fun e w'=>e=.returned (.bool (decide (J.length≤64)&&J.all gS))∧Below W.heap.size W w':=fun W hb=>Ec aJ cJ 64 J W (rJ.later hb) nJ (by omega)
 have h3:∀W,Below w.heap.size w W→Calls prog 222 #[.slice aI I.length cI,.int .i64 1536,.func (.func 223) #[] #[]] W fun e w'=>e=.returned (.bool (decide (I.length≤1536)&&I.all gI))∧Below W.heap.size W w':=fun W hb=>RH aI cI 1536 I W (rI.later hb) nI (by omega)
 obtain ⟨b1,e1⟩:∃b,(decide (L.length≤64)&&L.all gS)=b:=⟨_,rfl⟩;obtain ⟨b2,e2⟩:∃b,(decide (J.length≤64)&&J.all gS)=b:=⟨_,rfl⟩;obtain ⟨b3,e3⟩:∃b,(decide (I.length≤1536)&&I.all gI)=b:=⟨_,rfl⟩;obtain ⟨b0,e0⟩:∃b,gE e=b:=⟨_,rfl⟩;simp only [e0,e1,e2,e3] at HG h1 h2 h3 hE;rw [HG.out];clear HG e0 e1 e2 e3 rL rJ rI;generalize L.length=n1 at *;generalize J.length=n2 at *;generalize I.length=n3 at *;unfold vy;have hR:=heap_alloc_last w (.cells #[.int .i64 e,.slice aL n1 cL,.slice aJ n2 cJ,.slice aI n3 cI] 54);have hB:=aa w (.cells #[.int .i64 e,.slice aL n1 cL,.slice aJ n2 cJ,.slice aI n3 cI] 54);go_enter func162,ntmps162;go_upto_region 1 with (fail)
 generalize w.alloc (.cells #[.int .i64 e,.slice aL n1 cL,.slice aJ n2 cJ,.slice aI n3 cI] 54)=w1 at *;obtain ⟨B,tI⟩:∃B,w.heap.size=B:=⟨_,rfl⟩;rw [tI] at hR ⊢;clear tI;obtain ⟨c0,c1,c2,c3⟩:=c4 hR;have HB:Hid (Below w.heap.size w w1):=hB;clear hB;go_wp2_with fail
 refine (hE _).mono ?_;rintro q w2 ⟨rfl,rfl⟩
 cases b0 with
 | false=>
  go_wp2_with fail
  go_ret;exact ⟨rfl,HB.out⟩
 | true=>
  go_wp2_with fail
  refine (h1 _ HB.out).mono ?_;rintro q w2 ⟨rfl,hb2⟩;have EF:=aQ hR hb2;have bm:Hid (Below w.heap.size w w2):=Below.join HB.out hb2;clear c0 c1 c2 c3 hb2 hR HB h1;obtain ⟨c0,c1,c2,c3⟩:=c4 EF
  cases b1 with
  | false=>
   go_wp2_with fail
   go_ret;exact ⟨rfl,bm.out⟩
  | true=>
   go_wp2_with fail
   refine (h2 _ bm.out).mono ?_;rintro q w3 ⟨rfl,hb3⟩;have hR3:=aQ EF hb3;have dR:Hid (Below w.heap.size w w3):=Below.join bm.out hb3;clear c0 c1 c2 c3 hb3 EF bm h2;obtain ⟨c0,c1,c2,c3⟩:=c4 hR3
   cases b2 with
   | false=>
    go_wp2_with fail
    go_ret;exact ⟨rfl,dR.out⟩
   | true=>
    go_wp2_with fail
    refine (h3 _ dR.out).mono ?_;rintro q w4 ⟨rfl,hb4⟩;have R7:Hid (Below w.heap.size w w4):=Below.join dR.out hb4;clear c0 c1 c2 c3 hb4 hR3 dR h3;go_wp2_with fail
    go_ret;exact ⟨by cases b3 <;> rfl,R7.out⟩
open Bt (tx)
theorem p8:∀(vs old A Z:List Value),old.length=vs.length→upd (A++(old++Z)).toArray A.length vs=(A++(vs++Z)).toArray
 | [],old,A,Z,h=>by
  have:old=[]:=List.length_eq_zero_iff.1 h;subst this;rfl
 | v::vs,[],A,Z,h=>by cases h
 | v::vs,o::old,A,Z,h=>by
  have ih:=p8 vs old (A++[v]) Z (by simpa using h);rw [upd];have e:(A++(o::old++Z)).toArray.setIfInBounds A.length v=(A++[v]++(old++Z)).toArray:=by simp
  rw [e];rw [List.length_append] at ih;rw [show A.length+1=A.length+[v].length from rfl,ih];simp
/- A message in a block. -/
def df (w:World) (B:Nat) (m:lZ) (vL vJ vI:Value):Prop:=w.heap[B]? =some (.cells (xE m vL vJ vI).toArray 68 (0,0))
section
variable {w w':World} {B:Nat} {m:lZ} {vL vJ vI:Value}
theorem df.later (h:df w B m vL vJ vI) (hb:Below w.heap.size w w'):df w' B m vL vJ vI:=aQ h hb
theorem df.kind (h:df w B m vL vJ vI):w.cell? ⟨B,0,none⟩=some (.int .i64 m.kd):=(cell_of_row w B 0 _ _ _ h).trans rfl
theorem df.rk (h:df w B m vL vJ vI):w.rangeAt B 1 (vy m.rk.1 vL vJ vI):=yJ h 1 _ rfl
theorem df.rq (h:df w B m vL vJ vI):w.rangeAt B 5 (iI m.rq):=yJ h 5 _ rfl
theorem df.rp (h:df w B m vL vJ vI):w.rangeAt B 7 (mz m.rp):=yJ h 7 _ rfl
theorem df.sd (h:df w B m vL vJ vI):w.rangeAt B 22 (Ti m.sd):=yJ h 22 _ rfl
theorem df.all (h:df w B m vL vJ vI):w.rangeAt B 0 (xE m vL vJ vI):=yJ h 0 _ rfl
theorem df.there (h:df w B m vL vJ vI) (o n:Nat) (e:o+n≤26):w.there B o n:=MT h o n e
theorem df.acm (h:df w B m vL vJ vI) (r:Int×(List (Int×Int)×(List (Int×Int)×List ((Int×Int)×((Int×Int)×(Int×Int)))))) (xL xJ xI:Value):df (w.setCells B 1 (vy r.1 xL xJ xI)) B ⟨m.kd,r,m.rq,m.rp,m.sd⟩ xL xJ xI:=(uy _ 1 h).trans (congrArg (fun c=>some (Obj.cells c 68 (0,0))) (p8 (vy r.1 xL xJ xI) (vy m.rk.1 vL vJ vI) [.int .i64 m.kd] (iI m.rq++(mz m.rp++Ti m.sd)) rfl))
end
def nP (m:lZ):Bool:=nR m.rk&&(decide (m.rq=zQ)&&(decide (m.rp=zP)&&decide (m.sd=zD)))
set_option maxRecDepth 100000 in
theorem CN (m:lZ) (aL aJ aI:Option Addr) (cL cJ cI:Nat) (w:World) (nL:m.rk.2.1.length<4611686018427387904) (nJ:m.rk.2.2.1.length<4611686018427387904) (nI:m.rk.2.2.2.length<4611686018427387904):
  Calls prog 166 #[.agg (xE m (.slice aL m.rk.2.1.length cL) (.slice aJ m.rk.2.2.1.length cJ) (.slice aI m.rk.2.2.2.length cI)).toArray] w fun e w'=>e=.returned (.bool (nP m))∧Below w.heap.size w w':=by
 have HG:Hid (nP m=((decide (m.rk.1=0)&&(decide (m.rk.2.1.length=0)&&(decide (m.rk.2.2.1.length=0)&&decide (m.rk.2.2.2.length=0))))&&(decide (m.rq=zQ)&&(decide (m.rp=zP)&&decide (m.sd=zD))))):=rfl;rw [HG.out];clear HG;have hM:df (w.alloc (.cells (xE m (.slice aL m.rk.2.1.length cL) (.slice aJ m.rk.2.2.1.length cJ) (.slice aI m.rk.2.2.2.length cI)).toArray 68)) w.heap.size m (.slice aL m.rk.2.1.length cL) (.slice aJ m.rk.2.2.1.length cJ) (.slice aI m.rk.2.2.2.length cI):=heap_alloc_last w _;have hB:=aa w (.cells (xE m (.slice aL m.rk.2.1.length cL) (.slice aJ m.rk.2.2.1.length cJ) (.slice aI m.rk.2.2.2.length cI)).toArray 68);have GA:=fun W=>qb 59 (w:=W) 9998 m.rq zQ (.inr (.inr rfl))
 have Jq:=fun W=>Cr (w:=W) 9995 m.rp zP
 have LD:=fun W=>Cq (w:=W) 9997 m.sd zD
 generalize decide (m.rq=zQ)=g1 at *;generalize decide (m.rp=zP)=g2 at *;generalize decide (m.sd=zD)=g3 at *;generalize m.rk.2.1.length=n1 at *;generalize m.rk.2.2.1.length=n2 at *;generalize m.rk.2.2.2.length=n3 at *;obtain ⟨ct,bQ⟩:∃c,(xE m (.slice aL n1 cL) (.slice aJ n2 cJ) (.slice aI n3 cI)).toArray=c:=⟨_,rfl⟩;rw [bQ] at hB;rw [bQ];have hM':=hM;rw [bQ] at hM';clear hM;clear bQ;have Pv:=hM'.rk;obtain ⟨e,hee⟩:∃e,m.rk.1=e:=⟨_,rfl⟩;rw [hee] at Pv;rw [hee];clear hee;have HM:Hid (df (w.alloc (.cells ct 68)) w.heap.size m (.slice aL n1 cL) (.slice aJ n2 cJ) (.slice aI n3 cI)):=hM';unfold vy at Pv;clear hM';go_enter func166,ntmps166;go_upto_region 1 with (fail)
 generalize w.alloc (.cells ct 68)=w1 at *;obtain ⟨B,tI⟩:∃B,w.heap.size=B:=⟨_,rfl⟩;rw [tI] at Pv HM ⊢;clear tI;have HB:Hid (Below w.heap.size w w1):=hB;clear hB;go_upto_region 2 with (refine kg Pv underlying54 rfl Ka _ rfl rfl rfl ?_)
 have hR:=heap_alloc_last w1 (.cells #[.int .i64 e,.slice aL n1 cL,.slice aJ n2 cJ,.slice aI n3 cI] 54);have bm:Hid (Below w.heap.size w (w1.alloc (.cells #[.int .i64 e,.slice aL n1 cL,.slice aJ n2 cJ,.slice aI n3 cI] 54))):=Below.plus HB.out _;have iY:=HM.out.later (aa w1 (.cells #[.int .i64 e,.slice aL n1 cL,.slice aJ n2 cJ,.slice aI n3 cI] 54));generalize w1.alloc (.cells #[.int .i64 e,.slice aL n1 cL,.slice aJ n2 cJ,.slice aI n3 cI] 54)=w2 at *;generalize w1.heap.size=C at *;obtain ⟨c0,c1,c2,c3⟩:=c4 hR;have HQ:Hid (w2.rangeAt B 5 (iI m.rq)):=iY.rq;have HP:Hid (w2.rangeAt B 7 (mz m.rp)):=iY.rp;have HD:Hid (w2.rangeAt B 22 (Ti m.sd)):=iY.sd;clear HM HB Pv hR iY;have GA:=GA w2;have Jq:=Jq w2;have LD:=LD w2;by_cases he:e=0
 ·subst he;have f1:decide ((0:Int)=0)=true:=by simp
  by_cases h1:n1=0
  ·subst h1;by_cases h2:n2=0
   ·subst h2;by_cases h3:n3=0
    ·subst h3
     cases g1 with
     | false=>
      go_wp2_with (first | (refine kg HQ.out underlying59 rfl E0 _ rfl rfl rfl ?_) | (refine BS GA eqGuardType59 _ _ rfl rfl rfl rfl ?_))
      go_ret;exact ⟨rfl,bm.out⟩
     | true=>
      cases g2 with
      | false=>
       go_wp2_with (first | (refine kg HQ.out underlying59 rfl E0 _ rfl rfl rfl ?_) | (refine BS GA eqGuardType59 _ _ rfl rfl rfl rfl ?_) | (refine kg HP.out underlying64 rfl J_ _ rfl rfl rfl ?_) | (refine BS Jq eqGuardType64 _ _ rfl rfl rfl rfl ?_))
       go_ret;exact ⟨rfl,bm.out⟩
      | true=>
       go_wp2_with (first | (refine kg HQ.out underlying59 rfl E0 _ rfl rfl rfl ?_) | (refine BS GA eqGuardType59 _ _ rfl rfl rfl rfl ?_) | (refine kg HP.out underlying64 rfl J_ _ rfl rfl rfl ?_) | (refine BS Jq eqGuardType64 _ _ rfl rfl rfl rfl ?_) | (refine kg HD.out underlying66 rfl M0 _ rfl rfl rfl ?_) | (refine BS LD eqGuardType66 _ _ rfl rfl rfl rfl ?_))
       go_ret;exact ⟨by cases g3 <;> rfl,bm.out⟩
    ·have d1:decide ((n3:Int)=0)=false:=by simp;omega
     have d2:((n3:Int)==0)=false:=by simp;omega
     have d3:¬(n3:Int)=0:=by omega
     go_wp2_with fail
     go_ret;exact ⟨by simp [h3],bm.out⟩
   ·have d1:decide ((n2:Int)=0)=false:=by simp;omega
    have d2:((n2:Int)==0)=false:=by simp;omega
    have d3:¬(n2:Int)=0:=by omega
    go_wp2_with fail
    go_ret;exact ⟨by simp [h2],bm.out⟩
  ·have d1:decide ((n1:Int)=0)=false:=by simp;omega
   have d2:((n1:Int)==0)=false:=by simp;omega
   have d3:¬(n1:Int)=0:=by omega
   go_wp2_with fail
   go_ret;exact ⟨by simp [h1],bm.out⟩
 ·have d1:decide (e=0)=false:=by simp;omega
  have d2:(e==0)=false:=by simp;omega
  go_wp2_with fail
  go_ret;exact ⟨by simp [he],bm.out⟩
theorem adp {m:lZ} (h:m.kd=1):gM m=(gR m.rk&&nP ⟨m.kd,zR,m.rq,m.rp,m.sd⟩):=by
 have e:nR zR=true:=si.2 rfl;unfold gM nP;rw [if_pos h];dsimp only;rw [e,Bool.true_and]
/- What can be read of a message. -/
structure MR (w:World) (m:lZ) (aL aJ aI:Option Addr):Prop where
 l:iG iI 2 w aL m.rk.2.1
 j:iG iI 2 w aJ m.rk.2.2.1
 i:iG mW 6 w aI m.rk.2.2.2
 nl:m.rk.2.1.length<4611686018427387904
 nj:m.rk.2.2.1.length<4611686018427387904
 ni:m.rk.2.2.2.length<4611686018427387904
 ns:m.sd.2.2.size<4611686018427387904
theorem MR.later {w w':World} {m:lZ} {aL aJ aI:Option Addr} (h:MR w m aL aJ aI) (hb:Below w.heap.size w w'):MR w' m aL aJ aI:=⟨h.l.later hb,h.j.later hb,h.i.later hb,h.nl,h.nj,h.ni,h.ns⟩
/- A message as a value. -/
def CU (m:lZ) (aL aJ aI:Option Addr) (cL cJ cI:Nat):List Value:=xE m (.slice aL m.rk.2.1.length cL) (.slice aJ m.rk.2.2.1.length cJ) (.slice aI m.rk.2.2.2.length cI)
open Bt (Rr Kept tb bA bT a8)
/- What is thrown. -/
def pw:List PanicEntry:=[{v:=.iface 27 (.int .i64 13),recovered:=false}]
/- The reader, its box, a box for what is answered. -/
theorem bD (w:World) (cs:Array Value) (t:TypeId):∀j u,cs.toList[j]? =some u→(w.alloc (.cells cs t)).cell? ((⟨w.heap.size,0,none⟩:Addr).add j)=some u:=by
 intro j u hu
 have uh:(⟨w.heap.size,0,none⟩:Addr).add j=⟨w.heap.size,j,none⟩:=by
  unfold Addr.add;simp;intro h;exact h.symm
 rw [uh,cell_of_row _ _ j _ _ _ (heap_alloc_last w _)]
 simpa using hu
theorem ah {W:World} {b:Nat} {e:TypeId} {sz:Nat} {v:Value} {n:Nat} {xs:List Value} (h:W.ownsRow b e sz v n xs):∃a cap,v=.slice a n cap:=by
 rcases h.2 with ⟨rfl,rfl⟩ | ⟨g,cap,cur,rfl,_⟩
 ·exact ⟨none,0,rfl⟩
 ·exact ⟨_,cap,rfl⟩
open Bt (Rr Kept tb bA bT a8 tx rG)
theorem aY {W W':World} {b:Nat} {e:TypeId} {sz:Nat} {v:Value} {n:Nat} {xs:List Value} (h:W.ownsRow b e sz v n xs) (hk:∀g,b≤g→g<W.heap.size→W'.heap[g]? =W.heap[g]?):W'.ownsRow b e sz v n xs:=by
 obtain ⟨h1,h2⟩:=h;refine ⟨h1,?_⟩;rcases h2 with h2 | ⟨g,cap,cur,rfl,h3,h4,r⟩
 ·exact .inl h2
 ·exact .inr ⟨g,cap,cur,rfl,h3,(hk g h3 (Array.getElem?_eq_some_iff.1 h4).1).trans h4,r⟩
/- Beside the boxes a third one, which is filled. -/
open Bt (Rr Kept tb bA bT a8 tx rG dn)
set_option maxRecDepth 4000
/- A list that is owned can be read. -/
theorem Jd {α:Type} (f:α→List Value) (n:Nat) (hf:∀x,(f x).length=n):∀(l:List α) (i:Nat) (hi:i<l.length) (j:Nat),j<n→(l.flatMap f)[i * n+j]? =(f l[i])[j]?
 | [],i,hi,j,hj=>by cases hi
 | x::l,0,hi,j,hj=>by
  rw [List.flatMap_cons,Nat.zero_mul,Nat.zero_add,List.getElem?_append_left (by rw [hf];exact hj)];rfl
 | x::l,i+1,hi,j,hj=>by
  have e:(i+1) * n+j=n+(i * n+j):=by rw [Nat.succ_mul];omega
  rw [List.flatMap_cons,e,List.getElem?_append_right (by rw [hf];omega),hf,Nat.add_sub_cancel_left];exact Jd f n hf l i (by simpa using hi) j hj
theorem Ac {α:Type} {f:α→List Value} {n:Nat} (hf:∀x,(f x).length=n) {W:World} {b:Nat} {T:TypeId} {a:Option Addr} {cap:Nat} {l:List α} (h:W.ownsRow b T n (.slice a l.length cap) l.length (l.flatMap f)):iG f n W a l:=by
 intro i hi;rcases h.2 with ⟨e,h0⟩ | ⟨g,cap',cur,e,h3,h4,h5,h6,h7,h8⟩
 ·omega
 ·cases e
  refine ⟨g,0,rfl,fun j v hv=>?_⟩;have hj:j<n:=by have:=(List.getElem?_eq_some_iff.1 hv).1;rw [hf] at this;exact this
  have hlt:i * n+j<l.length * n:=by
   have:(i+1) * n≤l.length * n:=Nat.mul_le_mul_right n hi;rw [Nat.succ_mul] at this;omega
  rw [Nat.zero_add,cell_of_row W g (i * n+j) _ _ _ h4,←hv,←Jd f n hf l i hi j hj,←h8,List.getElem?_take_of_lt hlt];simp
set_option maxRecDepth 100000 in
theorem Zb (m:lZ) (aL aJ aI:Option Addr) (cL cJ cI:Nat) (w:World) (hr:MR w m aL aJ aI) (k1:m.kd=1):
  Calls prog 112 #[.agg (CU m aL aJ aI cL cJ cI).toArray] w fun e w'=>e=.returned (.bool (gM m))∧Below w.heap.size w w':=by
 unfold CU;have HR:Hid (MR w m aL aJ aI):=hr;clear hr;have hM:df (w.alloc (.cells (xE m (.slice aL m.rk.2.1.length cL) (.slice aJ m.rk.2.2.1.length cJ) (.slice aI m.rk.2.2.2.length cI)).toArray 68)) w.heap.size m (.slice aL m.rk.2.1.length cL) (.slice aJ m.rk.2.2.1.length cJ) (.slice aI m.rk.2.2.2.length cI):=heap_alloc_last w _;have hB:=aa w (.cells (xE m (.slice aL m.rk.2.1.length cL) (.slice aJ m.rk.2.2.1.length cJ) (.slice aI m.rk.2.2.2.length cI)).toArray 68);obtain ⟨ct,bQ⟩:∃c,(xE m (.slice aL m.rk.2.1.length cL) (.slice aJ m.rk.2.2.1.length cJ) (.slice aI m.rk.2.2.2.length cI)).toArray=c:=⟨_,rfl⟩;rw [bQ] at hB;rw [bQ];have HM:Hid (df (w.alloc (.cells ct 68)) w.heap.size m (.slice aL m.rk.2.1.length cL) (.slice aJ m.rk.2.2.1.length cJ) (.slice aI m.rk.2.2.2.length cI)):=by have h:=hM;rw [bQ] at h;exact h
 clear hM bQ;have HG:Hid (gM m=(gR m.rk&&nP ⟨m.kd,zR,m.rq,m.rp,m.sd⟩)):=adp k1;have hP:∀W,Below w.heap.size w W→_:=fun W hb=>yf m.rk aL aJ aI cL cJ cI W (HR.out.l.later hb) (HR.out.j.later hb) (HR.out.i.later hb) HR.out.nl HR.out.nj HR.out.ni
 have hN:=CN ⟨m.kd,zR,m.rq,m.rp,m.sd⟩ none none none 0 0 0;have hN:=fun W=>hN W (by show (0:Nat)<4611686018427387904;decide) (by show (0:Nat)<4611686018427387904;decide) (by show (0:Nat)<4611686018427387904;decide)
 obtain ⟨g,hg⟩:∃g,gR m.rk=g:=⟨_,rfl⟩;obtain ⟨g',hg'⟩:∃g,nP ⟨m.kd,zR,m.rq,m.rp,m.sd⟩=g:=⟨_,rfl⟩;simp only [hg,hg'] at HG hP hN;rw [HG.out];clear HG hg hg';have hk:=k1;go_enter func112,ntmps112;go_upto_region 2 with (fail)
 generalize w.alloc (.cells ct 68)=w1 at *;obtain ⟨B,tI⟩:∃B,w.heap.size=B:=⟨_,rfl⟩;have HBe:Hid (w.heap.size=B):=tI;rw [tI] at HM ⊢;clear tI;have HB:Hid (Below w.heap.size w w1):=hB;clear hB;have ck:=HM.out.kind;rw [hk] at ck;clear hk;have f1:decide ((1:Int)=1)=true:=by simp
 have HK:Hid (w1.rangeAt B 1 (vy m.rk.1 (.slice aL m.rk.2.1.length cL) (.slice aJ m.rk.2.2.1.length cJ) (.slice aI m.rk.2.2.2.length cI))):=HM.out.rk;have hP:=hP w1 HB.out;clear k1;go_wp2_with (refine kg HK.out underlying54 rfl Ka _ rfl rfl rfl ?_)
 refine hP.mono ?_;rintro r w2 ⟨rfl,hb2⟩;have bm:Hid (Below w.heap.size w w2):=Below.join HB.out hb2;have iY:=HM.out.later hb2;have JV:Hid (df w2 B m (.slice aL m.rk.2.1.length cL) (.slice aJ m.rk.2.2.1.length cJ) (.slice aI m.rk.2.2.2.length cI)):=iY;have HT:Hid (w2.there B 1 4∧w2.there B 5 2∧w2.there B 7 15∧w2.there B 22 4):=⟨iY.there 1 4 (by omega),iY.there 5 2 (by omega),iY.there 7 15 (by omega),iY.there 22 4 (by omega)⟩;clear iY hb2 HM HB ck;clear HK hP;go_upto_region 11 with (refine stM (cs:=vy 0 (.slice none 0 0) (.slice none 0 0) (.slice none 0 0)) HT.out.1 Ka rfl rfl _ _ rfl rfl rfl ?_)
 have P8:=JV.out.acm zR (.slice none 0 0) (.slice none 0 0) (.slice none 0 0);have uk:=yu (B:=B) (N:=w.heap.size) (by rw [HBe.out];omega) (vy 0 (.slice none 0 0) (.slice none 0 0) (.slice none 0 0)) 1 bm.out;have e0:vy zR.1 (.slice none 0 0) (.slice none 0 0) (.slice none 0 0)=vy 0 (.slice none 0 0) (.slice none 0 0) (.slice none 0 0):=rfl;rw [e0] at P8;generalize w2.setCells B 1 (vy 0 (.slice none 0 0) (.slice none 0 0) (.slice none 0 0))=w3 at *;clear e0 HT;have dR:Hid (Below w.heap.size w w3):=uk
 cases g with
 | false=>
  go_wp2_with fail
  go_ret;exact ⟨rfl,dR.out⟩
 | true=>
  have HA:Hid _:=P8.all;have hN:=hN w3;clear P8 uk JV bm;go_wp2_with (refine kg HA.out underlying68 rfl S9 _ rfl rfl rfl ?_)
  refine hN.mono ?_;rintro r w4 ⟨rfl,hb4⟩;have R7:Hid (Below w.heap.size w w4):=Below.join dR.out hb4;clear hb4 hN dR HA;go_wp2_with fail
  go_ret;exact ⟨by cases g' <;> rfl,R7.out⟩
end Go.Proofs.YtanaapfobpgibaaGreatDoor.Wi
