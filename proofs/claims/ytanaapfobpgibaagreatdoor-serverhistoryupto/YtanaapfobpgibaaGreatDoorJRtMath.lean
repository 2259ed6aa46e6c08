/- RtMath, RtA, RtH, joined. -/
import Derived.Test.YtanaapfobpgibaaGreatDoorJKeyMath
open Go.Proofs.Tryz
set_option maxHeartbeats 1000000
namespace Go.Proofs.YtanaapfobpgibaaGreatDoor.Rt
set_option linter.unusedVariables false
set_option maxRecDepth 4000
set_option linter.unusedSimpArgs false
/- A key. -/
variable {a b n:Int} {i j k v w:Nat}
structure Ky where
 aB:Int
 bp:Int
theorem Ky.ext' {a b:Ky} (h1:a.aB=b.aB) (h2:a.bp=b.bp):a=b:=by cases a;cases b;simp_all
def zK:Ky:=⟨0,0⟩
def Ky.fld (e:Ky) (k:Nat):Int:=if k=0 then e.aB else e.bp
/- The 21 keys as cells. -/
def bF (f:Nat→Ky):Array Value:=Array.ofFn (n:=42) fun i=>.int .i64 ((f (i.1/2)).fld (i.1%2))
@[simp] theorem bH (f:Nat→Ky):(bF f).size=42:=by simp [bF]
theorem O9 (f:Nat→Ky) (j:Nat) (h:j<42):(bF f)[j]? =some (.int .i64 ((f (j/2)).fld (j%2))):=by
 rw [Array.getElem?_eq_getElem (by simpa using h)];simp [bF]
theorem AE (f:Nat→Ky) (i:Nat) (h:i<21):(bF f)[i * 2]? =some (.int .i64 (f i).aB)∧(bF f)[i * 2+1]? =some (.int .i64 (f i).bp):=by
 refine ⟨?_,?_⟩
 ·rw [O9 f _ (by omega),show i * 2/2=i by omega,show i * 2%2=0 by omega];rfl
 ·rw [O9 f _ (by omega),show (i * 2+1)/2=i by omega,show (i * 2+1)%2=1 by omega];rfl
theorem oh {f g:Nat→Ky} (h:∀i,i<21→f i=g i):bF f=bF g:=by
 unfold bF
 congr 1
 funext i
 rw [h (i.1/2) (by have:=i.2;omega)]
theorem qx (f:Nat→Ky):(bF f).all (·.oneCell')=true:=by
 rw [Array.all_eq_true];intro i h;simp [bF,Value.oneCell']
def EA (f:Nat→Ky) (k:Nat) (e:Ky):Nat→Ky:=fun i=>if i=k then e else f i
theorem O6 (f:Nat→Ky) (k:Nat) (e:Ky):EA f k e k=e:=if_pos rfl
theorem Yv (f:Nat→Ky) (e:Ky) (h:i≠k):EA f k e i=f i:=if_neg h
theorem IB (f:Nat→Ky) (k:Nat) (e:Ky) (hk:k<21):
  ((bF f).setIfInBounds (k * 2) (.int .i64 e.aB)).setIfInBounds (k * 2+1) (.int .i64 e.bp)=bF (EA f k e):=by
 apply Array.ext
 ·simp
 ·intro i h1 h2;simp at h1;rw [Array.getElem_setIfInBounds (by simpa using h1),Array.getElem_setIfInBounds (by simpa using h1)];simp only [bF,Array.getElem_ofFn];by_cases h:i/2=k
  ·rw [h,O6];by_cases c1:k * 2+1=i
   ·rw [if_pos c1,show i%2=1 by omega];rfl
   ·rw [if_neg c1,if_pos (by omega),show i%2=0 by omega];rfl
  ·rw [if_neg (by omega),if_neg (by omega),Yv _ _ h]
/- Names, right keys. -/
def dW (k:Ky) (a b:Int):Bool:=decide (a≤k.aB)&&decide (k.aB<b)
def Ex (f:Nat→Ky) (n:Nat) (a b:Int):Bool:=(List.range n).any fun i=>dW (f i) a b
theorem ql {f:Nat→Ky} {n:Nat} (hi:i<n) (h:dW (f i) a b=true):Ex f n a b=true:=by
 unfold Ex;rw [List.any_eq_true];exact ⟨i,List.mem_range.2 hi,h⟩
theorem Au {f:Nat→Ky} {n:Nat} (h:∀i,i<n→dW (f i) a b=false):Ex f n a b=false:=by
 rw [Bool.eq_false_iff];intro hc;unfold Ex at hc;rw [List.any_eq_true] at hc;obtain ⟨i,hi,h2⟩:=hc;rw [h i (List.mem_range.1 hi)] at h2;cases h2
theorem Yj {f:Nat→Ky} {n:Nat} (h:Ex f n a b=false) (hi:i<n):dW (f i) a b=false:=by
 rw [Bool.eq_false_iff];intro hc;rw [ql hi hc] at h;cases h
theorem qm (k:Ky) (b:Int):dW k b (b+1)=decide (k.aB=b):=by
 unfold dW;rw [Bool.eq_iff_iff];simp;omega
def y9 (f:Nat→Ky) (i:Nat):Bool:=gd (f i).aB (f i).bp&&(decide ((f i).aB<32768)&& !Ex f i (f i).aB ((f i).aB+1))
def eH (f:Nat→Ky):Bool:=(List.range 21).all (y9 f)
def tj (f:Nat→Ky):Int:=if eH f then 0 else 31
theorem sr {f:Nat→Ky} (h:∀j,j<21→y9 f j=true):eH f=true:=by
 unfold eH;rw [List.all_eq_true];intro x hx;exact h x (List.mem_range.1 hx)
theorem uJ {f:Nat→Ky} (h:eH f=true) (hk:k<21):y9 f k=true:=by
 unfold eH at h;rw [List.all_eq_true] at h;exact h k (List.mem_range.2 hk)
theorem kS {f:Nat→Ky} (hk:k<21) (h:y9 f k=false):eH f=false:=by
 rw [Bool.eq_false_iff];intro hc;rw [uJ hc hk] at h;cases h
theorem kT {f:Nat→Ky} (h:eH f=true):tj f=0:=by unfold tj;rw [h];rfl
theorem fh {f:Nat→Ky} (h:eH f=false):tj f=31:=by unfold tj;rw [h];rfl
theorem Gr {s:Int}:gd b s=true↔Gd b s:=by
 constructor
 ·intro h;simp [gd] at h;exact h
 ·exact sF
theorem il {f:Nat→Ky}:eH f=true↔(∀i,i<21→Gd (f i).aB (f i).bp∧(f i).aB<32768)∧∀i j,i<j→j<21→(f i).aB≠(f j).aB:=by
 constructor
 ·intro h;refine ⟨fun i hi=>?_,fun i j hij hj hb=>?_⟩
  ·have:=uJ h hi;unfold y9 at this;rw [Bool.and_eq_true,Bool.and_eq_true] at this;exact ⟨Gr.1 this.1,by simpa using this.2.1⟩
  ·have:=uJ h hj;unfold y9 at this;rw [Bool.and_eq_true,Bool.and_eq_true] at this;have h2:=this.2.2;rw [ql hij (by rw [qm,hb];simp)] at h2;cases h2
 ·rintro ⟨h1,h2⟩;refine sr fun j hj=>?_
  unfold y9;rw [sF (h1 j hj).1,decide_eq_true (h1 j hj).2,Au fun i hi=>?_]
  ·rfl
  ·rw [qm];exact decide_eq_false (h2 i j hi hj)
/- How many bits, from below and from above. -/
def b1 (r v:Nat):Nat:=if r.testBit v then 1 else 0
def cu (r:Nat):Nat→Nat
 | 0=>0
 | k+1=>cu r k+b1 r k
def cd (r:Nat):Nat→Nat
 | 0=>0
 | j+1=>cd r j+b1 r (20 - j)
theorem WW (r v:Nat):b1 r v≤1:=by unfold b1;split <;> omega
theorem WO (r:Nat):∀j,j≤21→cd r j+cu r (21 - j)=cu r 21
 | 0,_=>by simp [cd]
 | j+1,h=>by
  have ih:=WO r j (by omega);have e:21 - j=(20 - j)+1:=by omega
  rw [e] at ih;have e2:21 - (j+1)=20 - j:=by omega
  rw [e2];simp only [cd,cu] at ih ⊢;omega
theorem Bc (r:Nat):cd r 21=cu r 21:=by have:=WO r 21 (by omega);simpa [cu] using this
theorem Bb (r:Nat):∀{j k:Nat},j≤k→cd r j≤cd r k
 | j,0,h=>by rw [Nat.le_zero.1 h];exact Nat.le_refl _
 | j,k+1,h=>by
  rcases Nat.lt_or_ge j (k+1) with c | c
  ·have:=Bb r (j:=j) (k:=k) (by omega);simp only [cd];omega
  ·rw [show j=k+1 by omega];exact Nat.le_refl _
theorem tL (r:Nat):∀k,cu r k≤k
 | 0=>by simp [cu]
 | k+1=>by have:=tL r k;have:=WW r k;simp only [cu];omega
theorem nB (r:Nat):∀k,cd r k≤k
 | 0=>by simp [cd]
 | k+1=>by have:=nB r k;have:=WW r (20 - k);simp only [cd];omega
theorem Q7 {r:Nat} (hv:v<21) (h:r.testBit v=true):cd r (20 - v)<cu r 21:=by
 have h1:=Bb r (j:=20 - v+1) (k:=21) (by omega);rw [Bc] at h1;simp only [cd] at h1;have e:b1 r (20 - (20 - v))=1:=by rw [show 20 - (20 - v)=v by omega];unfold b1;rw [h];rfl
 omega
theorem Js {r:Nat}:∀{k:Nat},(∀i,i<k→r.testBit i=false)→cu r k=0
 | 0,_=>rfl
 | k+1,h=>by
  simp only [cu];rw [Js fun i hi=>h i (by omega)];unfold b1;rw [h k (by omega)];rfl
theorem Zu {r:Nat} (hv:v<k) (h:r.testBit v=true):0<cu r k:=by
 induction k with
 | zero=>omega
 | succ k ih=>
  simp only [cu];rcases Nat.lt_or_ge v k with c | c
  ·have:=ih c;omega
  ·have:v=k:=by omega
   subst this;unfold b1;rw [h];simp
/- The turn. -/
def wV (f:Nat→Ky) (r:Nat) (n:Int):Bool:=decide (cu r 21=0)||(decide (1≤n)&&(decide (n≤32768 - (cu r 21:Int))&& !Ex f 21 n (n+(cu r 21:Int))))
def Ew (f:Nat→Ky) (r v:Nat):Bool:= !r.testBit v&&decide (254<(f v).bp)
def stuck (f:Nat→Ky) (r:Nat):Bool:=(List.range 21).any (Ew f r)
def l9 (f:Nat→Ky) (r:Nat) (n:Int):Int:=if eH f then (if r<2097152 then (if wV f r n then (if stuck f r then 4 else 0) else 3) else 2) else 31
def kI (f:Nat→Ky) (r:Nat) (n:Int) (v:Nat):Ky:=if r.testBit v then ⟨n+(cd r (20 - v):Int),0⟩ else ⟨(f v).aB,(f v).bp+1⟩
def R_ (f:Nat→Ky) (r:Nat) (n:Int):Nat→Ky:=if l9 f r n=0 then kI f r n else fun _=>zK
def VL (f:Nat→Ky) (r:Nat) (n:Int):Int:=if l9 f r n=0 then n+(cu r 21:Int) else 0
/- The keys while the turn goes down: j nodes are done. -/
def xB (g f:Nat→Ky) (r:Nat) (n:Int) (j:Nat):Nat→Ky:=fun v=>if 21≤v+j then kI f r n v else g v
theorem B_ (g f:Nat→Ky) (r:Nat) (n:Int):bF (xB g f r n 0)=bF g:=oh fun i hi=>if_neg (by omega)
theorem Hl (g f:Nat→Ky) (r:Nat) (n:Int):bF (xB g f r n 21)=bF (kI f r n):=oh fun i hi=>if_pos (by omega)
theorem Ca (g f:Nat→Ky) (r:Nat) (n:Int) (hj:j<21):xB g f r n (j+1)=EA (xB g f r n j) (20 - j) (kI f r n (20 - j)):=by
 funext v
 show (if 21≤v+(j+1) then kI f r n v else g v)=if v=20 - j then kI f r n (20 - j) else (if 21≤v+j then kI f r n v else g v)
 by_cases h:v=20 - j
 ·subst h;rw [if_pos (by omega),if_pos rfl]
 ·rw [if_neg h];by_cases c:21≤v+j
  ·rw [if_pos (by omega),if_pos c]
  ·rw [if_neg (by omega),if_neg c]
theorem XB (g f:Nat→Ky) (r:Nat) (n:Int) (hj:j<21):xB g f r n j (20 - j)=g (20 - j):=if_neg (by omega)
theorem vp {f:Nat→Ky} {r:Nat} (h:∀v,v<21→Ew f r v=false):stuck f r=false:=by
 rw [Bool.eq_false_iff];intro hc;unfold stuck at hc;rw [List.any_eq_true] at hc;obtain ⟨i,hi,h2⟩:=hc;rw [h i (List.mem_range.1 hi)] at h2;cases h2
theorem rO {f:Nat→Ky} {r:Nat} (hv:v<21) (h:Ew f r v=true):stuck f r=true:=by
 unfold stuck;rw [List.any_eq_true];exact ⟨v,List.mem_range.2 hv,h⟩
theorem M5 {f:Nat→Ky} {r:Nat} (h:stuck f r=false) (hv:v<21) (hb:r.testBit v=false):(f v).bp≤254:=by
 have:Ew f r v=false:=by
  rw [Bool.eq_false_iff];intro hc;rw [rO hv hc] at h;cases h
 unfold Ew at this;rw [hb] at this;simp at this;omega
theorem rH {f:Nat→Ky} {r:Nat} (h:eH f=false):l9 f r n=31:=by unfold l9;rw [h];rfl
theorem vk {f:Nat→Ky} {r:Nat} (h:eH f=true) (h2:¬r<2097152):l9 f r n=2:=by unfold l9;rw [h,if_pos rfl,if_neg h2]
theorem nX {f:Nat→Ky} {r:Nat} (h:eH f=true) (h2:r<2097152) (h3:wV f r n=false):l9 f r n=3:=by unfold l9;rw [h,if_pos rfl,if_pos h2,h3];rfl
theorem vg {f:Nat→Ky} {r:Nat} (h:eH f=true) (h2:r<2097152) (h3:wV f r n=true) (h4:stuck f r=true):l9 f r n=4:=by unfold l9;rw [h,if_pos rfl,if_pos h2,h3,h4];rfl
theorem vh {f:Nat→Ky} {r:Nat} (h:eH f=true) (h2:r<2097152) (h3:wV f r n=true) (h4:stuck f r=false):l9 f r n=0:=by unfold l9;rw [h,if_pos rfl,if_pos h2,h3,h4];rfl
theorem J7 (f:Nat→Ky) (r:Nat) (n:Int):l9 f r n=0∧eH f=true∧r<2097152∧wV f r n=true∧stuck f r=false∨l9 f r n=31∧eH f=false∨l9 f r n=2∨l9 f r n=3∨l9 f r n=4∧eH f=true:=by
 cases h:eH f with
 | false=>exact Or.inr (Or.inl ⟨rH h,rfl⟩)
 | true=>
  by_cases h2:r<2097152
  ·cases h3:wV f r n with
   | false=>exact Or.inr (Or.inr (Or.inr (Or.inl (nX h h2 h3))))
   | true=>
    cases h4:stuck f r with
    | true=>exact Or.inr (Or.inr (Or.inr (Or.inr ⟨vg h h2 h3 h4,rfl⟩)))
    | false=>exact Or.inl ⟨vh h h2 h3 h4,rfl,h2,rfl,rfl⟩
  ·exact Or.inr (Or.inr (Or.inl (vk h h2)))
theorem vn {f:Nat→Ky} {r:Nat} (h:l9 f r n=0):eH f=true∧r<2097152∧wV f r n=true∧stuck f r=false:=by
 rcases J7 f r n with ⟨_,h⟩ | ⟨h2,_⟩ | h2 | h2 | ⟨h2,_⟩
 ·exact h
 all_goals (rw [h] at h2;cases h2)
/- What a turn's keys are. -/
theorem AZ {f:Nat→Ky} {r:Nat} (h:wV f r n=true) (hv:v<21) (hb:r.testBit v=true):1≤n∧n+(cu r 21:Int)≤32768∧∀i,i<21→¬(n≤(f i).aB∧(f i).aB<n+(cu r 21:Int)):=by
 have hp:=Zu hv hb;unfold wV at h;rw [decide_eq_false (by omega),Bool.false_or,Bool.and_eq_true,Bool.and_eq_true] at h;obtain ⟨h1,h2,h3⟩:=h;have h3':Ex f 21 n (n+(cu r 21:Int))=false:=by simpa using h3
 refine ⟨by simpa using h1,by have:=of_decide_eq_true h2;omega,fun i hi hc=>?_⟩;have:=Yj h3' hi;unfold dW at this;rw [decide_eq_true hc.1,decide_eq_true hc.2] at this;cases this
theorem ly {f:Nat→Ky} {r:Nat} (hb:r.testBit v=true):kI f r n v=⟨n+(cd r (20 - v):Int),0⟩:=by unfold kI;rw [hb];rfl
theorem jZ {f:Nat→Ky} {r:Nat} (hb:r.testBit v=false):kI f r n v=⟨(f v).aB,(f v).bp+1⟩:=by unfold kI;rw [hb];rfl
/- No new key of a replaced node has an old one's name. -/
theorem yw {f:Nat→Ky} {r:Nat} (h:l9 f r n=0) (hv:v<21) (hw:w<21) (hb:r.testBit v=true):(kI f r n v).aB≠(f w).aB:=by
 obtain ⟨_,_,h3,_⟩:=vn h;obtain ⟨_,_,h5⟩:=AZ h3 hv hb;rw [ly hb];intro e;have:=Q7 hv hb;dsimp only at e;exact h5 w hw ⟨by omega,by omega⟩
theorem XD {f:Nat→Ky} {r:Nat} (h:l9 f r n=0) (hv:v<21):Gd (kI f r n v).aB (kI f r n v).bp∧(kI f r n v).aB<32768:=by
 obtain ⟨h1,h2,h3,h4⟩:=vn h;obtain ⟨hg,hl⟩:=(il.1 h1).1 v hv
 cases hb:r.testBit v with
 | true=>
  obtain ⟨g1,g2,_⟩:=AZ h3 hv hb;rw [ly hb];have:=Q7 hv hb;exact ⟨⟨by dsimp only;omega,by dsimp only;omega,by dsimp only;omega,by dsimp only;omega⟩,by dsimp only;omega⟩
 | false=>
  rw [jZ hb];have:=M5 h4 hv hb;obtain ⟨g1,g2,g3,g4⟩:=hg;exact ⟨⟨g1,g2,by dsimp only;omega,by dsimp only;omega⟩,hl⟩
theorem XC {f:Nat→Ky} {r:Nat} (h:l9 f r n=0) (hvw:v<w) (hw:w<21):(kI f r n v).aB≠(kI f r n w).aB:=by
 obtain ⟨h1,h2,h3,h4⟩:=vn h
 cases hb:r.testBit v with
 | true=>
  cases hc:r.testBit w with
  | true=>
   rw [ly hb,ly hc];have h5:=Bb r (j:=20 - w+1) (k:=20 - v) (by omega);simp only [cd] at h5;have e:b1 r (20 - (20 - w))=1:=by rw [show 20 - (20 - w)=w by omega];unfold b1;rw [hc];rfl
   dsimp only;omega
  | false=>
   have:=yw h (v:=v) (w:=w) (by omega) hw hb;rw [jZ hc];exact this
 | false=>
  cases hc:r.testBit w with
  | true=>
   have:=yw h (v:=w) (w:=v) hw (by omega) hc;rw [jZ hb];exact fun e=>this e.symm
  | false=>
   rw [jZ hb,jZ hc];exact (il.1 h1).2 v w hvw hw
theorem J6 {f:Nat→Ky} {r:Nat} (h:l9 f r n=0):eH (kI f r n)=true:=
 il.2 ⟨fun i hi=>XD h hi,fun i j hij hj=>XC h hij hj⟩
open Go.RowKit Go.Great
variable {W w w':World} {B C n:Nat} {f g:Nat→Ky} {a:Act} {ops:Array Oper} {o:Oper} {Q:Exit→Act→World→Prop} {cs:Array Value} {t:TypeId}
theorem bC (z:Int) (h0: -9223372036854775808≤z) (h1:z<9223372036854775808):IntKind.i64.wrap z=z:=by
 simp only [IntKind.wrap,IntKind.bits,IntKind.signed];simp;omega
theorem tu:(prog.info? 33).map (·.size)=some 42:=by kernel_rfl
def bq (w:World) (B:Nat) (f:Nat→Ky):Prop:=w.heap[B]? =some (.cells (bF f) 33 (0,0))
theorem bq.lt (h:bq w B f):B<w.heap.size:=(Array.getElem?_eq_some_iff.1 h).1
theorem bq.below (h:bq w B f) (hb:Below n w w') (hn:B<n):bq w' B f:=(hb.block B hn).trans h
theorem bq.later (h:bq w B f) (hb:Below w.heap.size w w'):bq w' B f:=h.below hb h.lt
theorem bq.new (w:World) (f:Nat→Ky):bq (w.alloc (.cells (bF f) 33)) w.heap.size f:=heap_alloc_last w _
theorem bq.congr (h:bq w B f) (e:bF f=bF g):bq w B g:=by unfold bq at *;rw [←e];exact h
theorem jK (w:World) (f:Nat→Ky):Below w.heap.size w (w.alloc (.cells (bF f) 33)):=(Below.refl _ w).alloc (Nat.le_refl _) _
theorem lh (w:World) (k:Ky):Below w.heap.size w (w.alloc (.cells #[.int .i64 k.aB,.int .i64 k.bp] 31)):=(Below.refl _ w).alloc (Nat.le_refl _) _
theorem bq.cells (h:bq w B f) (k:Nat) (hk:k<21):w.cell? ⟨B,k * 2,none⟩=some (.int .i64 (f k).aB)∧w.cell? ⟨B,k * 2+1,none⟩=some (.int .i64 (f k).bp):=by
 obtain ⟨h0,h1⟩:=AE f k hk;exact ⟨(cell_of_row w B _ _ _ _ h).trans h0,(cell_of_row w B _ _ _ _ h).trans h1⟩
theorem bz {a:Addr} {v:Value} (h:w.cell? a=some v) (o:Obj):(w.alloc o).cell? a=some v:=cell_later ((Below.refl _ w).alloc (Nat.le_refl _) o) h
/- A key lies in a block. -/
def cK (w:World) (B:Nat) (e:Ky):Prop:=w.heap[B]? =some (.cells #[.int .i64 e.aB,.int .i64 e.bp] 31 (0,0))
theorem cK.lt {f:Ky} (h:cK w B f):B<w.heap.size:=(Array.getElem?_eq_some_iff.1 h).1
theorem cK.later {f:Ky} (h:cK w B f) (hb:Below w.heap.size w w'):cK w' B f:=(hb.block B h.lt).trans h
theorem cK.new (w:World) (e:Ky):cK (w.alloc (.cells #[.int .i64 e.aB,.int .i64 e.bp] 31)) w.heap.size e:=heap_alloc_last w _
theorem cK.cells {e:Ky} (h:cK w B e):w.cell? ⟨B,0,none⟩=some (.int .i64 e.aB)∧w.cell? ⟨B,1,none⟩=some (.int .i64 e.bp):=
 ⟨cell_of_row w B 0 _ _ _ h,cell_of_row w B 1 _ _ _ h⟩
/- Whole loads and stores. -/
theorem Yu {rest:List Oper} (h:bq w B f) (hgd:o.guard=none) (x:Operand) (ho:o.op=.load 33 x)
  (hx:a.eval x=.pointer (some ⟨B,0,none⟩)) (k:wpList prog ops Q rest (a.put o.dst (.agg (bF f))) w):wpList prog ops Q (o::rest) a w:=
 wpList_load_row hgd 33 x ho B hx 33 (bF f) (0,0) _ h underlying33 rfl (by rw [bH];exact tu) k
theorem Kf {rest:List Oper} (h:bq w B f) (hgd:o.guard=none) (x y:Operand) (ho:o.op=.store 33 x y)
  (hx:a.eval x=.pointer (some ⟨B,0,none⟩)) (hy:a.eval y=.agg (bF g)) (k:wpList prog ops Q rest (a.put o.dst undef) (w.setRow B (bF g))):wpList prog ops Q (o::rest) a w:=
 wpList_store_row hgd 33 x y ho B (bF g) hx hy 33 (bF f) h (by rw [bH];exact tu) (by rw [bH,bH]) (qx g) k
theorem ai {g:Nat} {fr:Nat×Nat} (h:w.heap[g]? =some (.cells cs t fr)) (cs':Array Value):(w.setRow g cs').heap[g]? =some (.cells cs' t fr):=by
 simp only [World.setRow,Array.getElem?_modify];rw [if_pos trivial,h];rfl
theorem ag {g:Nat} (hg:n≤g) (h:Below n w W) (cs:Array Value):Below n w (W.setRow g cs):=by
 refine h.trans ⟨rfl,rfl,rfl,by simp,fun k hk=>?_⟩;simp only [World.setRow,Array.getElem?_modify];rw [if_neg (by omega)]
theorem aq (h:C≠B) (cs:Array Value):(w.setRow B cs).heap[C]? =w.heap[C]? :=by
 simp only [World.setRow,Array.getElem?_modify];rw [if_neg (fun e=>h e.symm)]
theorem bq.row (h:bq w B f) (g:Nat→Ky):bq (w.setRow B (bF g)) B g:=ai h _
theorem ax (h:w.heap[B]? =some (.cells cs t (0,0))) (k:Nat):w.frozen? ⟨B,k,none⟩=false:=by
 simp [World.frozen?,h]
theorem aO (h:w.heap[B]? =some (.cells cs t (0,0))) (k:Nat) (v:Value):(w.setCell ⟨B,k,none⟩ v).heap[B]? =some (.cells (cs.setIfInBounds k v) t (0,0)):=by
 simp only [World.setCell,Array.getElem?_modify];rw [if_pos trivial,h];rfl
theorem au (h:C≠B) (k:Nat) (v:Value):(w.setCell ⟨B,k,none⟩ v).heap[C]? =w.heap[C]? :=by
 simp only [World.setCell,Array.getElem?_modify];rw [if_neg (fun e=>h e.symm)]
theorem bq.Ng (h:bq w B f) (k:Nat) (hk:k<21) (a b:Int):
  bq ((w.setCell ⟨B,k * 2,none⟩ (.int .i64 a)).setCell ⟨B,k * 2+1,none⟩ (.int .i64 b)) B (EA f k ⟨a,b⟩):=by
 have h3:=aO (aO h (k * 2) (.int .i64 a)) (k * 2+1) (.int .i64 b);rw [IB f k ⟨a,b⟩ hk] at h3;exact h3
theorem ei (h:Below n w W) (hB:n≤B) (i j:Nat) (a b:Value):Below n w ((W.setCell ⟨B,i,none⟩ a).setCell ⟨B,j,none⟩ b):=
 (h.setCell (p:=⟨B,i,none⟩) hB a).setCell (p:=⟨B,j,none⟩) hB b
theorem eh (h:C≠B) (i j:Nat) (a b:Value):((w.setCell ⟨B,i,none⟩ a).setCell ⟨B,j,none⟩ b).heap[C]? =w.heap[C]? :=by
 rw [au h,au h]
theorem u9:(#[Value.int .i64 0,Value.int .i64 0,Value.int .i64 0,Value.int .i64 0,Value.int .i64 0,Value.int .i64 0,Value.int .i64 0,Value.int .i64 0,Value.int .i64 0,Value.int .i64 0,Value.int .i64 0,Value.int .i64 0,Value.int .i64 0,Value.int .i64 0,Value.int .i64 0,Value.int .i64 0,Value.int .i64 0,Value.int .i64 0,Value.int .i64 0,Value.int .i64 0,Value.int .i64 0,Value.int .i64 0,Value.int .i64 0,Value.int .i64 0,Value.int .i64 0,Value.int .i64 0,Value.int .i64 0,Value.int .i64 0,Value.int .i64 0,Value.int .i64 0,Value.int .i64 0,Value.int .i64 0,Value.int .i64 0,Value.int .i64 0,Value.int .i64 0,Value.int .i64 0,Value.int .i64 0,Value.int .i64 0,Value.int .i64 0,Value.int .i64 0,Value.int .i64 0,Value.int .i64 0]:Array Value)=bF fun _=>zK:=by kernel_rfl
/- A key out of a whole value. -/
theorem abE (f:Nat→Ky) (k:Nat) (hk:k<21):(bF f).extract (k * 2) (k * 2+2)=#[.int .i64 (f k).aB,.int .i64 (f k).bp]:=by
 obtain ⟨h0,h1⟩:=AE f k hk;have hs:=bH f;apply Array.ext
 ·simp;omega
 ·intro i h3 h4;simp at h4;rw [Array.getElem_extract]
  match i,h4 with
  | 0,_=>simpa using (Array.getElem?_eq_some_iff.1 h0).2
  | 1,_=>simpa using (Array.getElem?_eq_some_iff.1 h1).2
theorem YE (f:Nat→Ky) (k:Nat) (hk:k<21) (W:World):(Instr.index 33 (.agg (bF f)) (.int .i64 (k:Int))).run prog W=.ok (.agg #[.int .i64 (f k).aB,.int .i64 (f k).bp]) W:=by
 have hk2:(k:Int)<21:=by omega
 have hk3:(0:Int)≤(k:Int):=by omega
 have e:=abE f k hk;have hs:=bH f;generalize bF f=c at *;simp [Instr.index,asIntOf,hk2,hk3,part,go_sem,e];omega
/- '==' of whole values. -/
def WL (a b:Ky):Bool:=decide (a.aB=b.aB)&&decide (a.bp=b.bp)
theorem Jo {a b:Ky}:WL a b=true↔a=b:=by
 simp only [WL,Bool.and_eq_true,decide_eq_true_eq];exact ⟨fun h=>Ky.ext' h.1 h.2,fun h=>by subst h;simp⟩
theorem Cs (d:Nat) (a b:Ky) (w:World):(Op.equalIn (d+2) 31 (.agg #[.int .i64 a.aB,.int .i64 a.bp]) (.agg #[.int .i64 b.aB,.int .i64 b.bp])).run prog w=.ok (WL a b) w:=by
 rw [run_equalIn_agg w (d+1) 31 _ _ (by kernel_rfl) (by kernel_rfl)];by_cases h1:a.aB=b.aB <;> by_cases h2:a.bp=b.bp <;> simp [WL,go_sem,part,h1,h2]
def Zo (f g:Nat→Ky):Bool:=(List.range 21).all fun i=>WL (f i) (g i)
theorem U2:Zo f g=true↔∀i,i<21→f i=g i:=by
 unfold Zo;rw [List.all_eq_true];exact ⟨fun h i hi=>Jo.1 (h i (List.mem_range.2 hi)),fun h i hi=>Jo.2 (h i (List.mem_range.1 hi))⟩
theorem QC (f:Nat→Ky):Zo f f=true:=U2.2 fun _ _=>rfl
theorem VY (f:Nat→Ky) (i:Nat) (hi:i<21) (w:World):(part 31 (bF f) (i * 2)).run prog w=.ok (.agg #[.int .i64 (f i).aB,.int .i64 (f i).bp]) w:=by
 have e:=abE f i hi;simp [part,go_sem,e]
theorem DK (f g:Nat→Ky) (d:Nat) (w:World):∀l:List Nat,(∀i∈l,i<21)→(Op.eqItems (d+2) 31 2 (bF f) (bF g) l).run prog w=.ok (l.all fun i=>WL (f i) (g i)) w
 | [],_=>by simp [Op.eqItems]
 | i::l,h=>by
  have hi:=h i (by simp);have ih:=DK f g d w l fun j hj=>h j (by simp [hj])
  cases he:WL (f i) (g i) with
  | false=>simp [Op.eqItems,Sem.run_bind,Sem.run_ite,VY _ i hi,Result.andThen_ok,Cs d,he]
  | true=>simp [Op.eqItems,Sem.run_bind,Sem.run_ite,VY _ i hi,Result.andThen_ok,Cs d,he,ih]
theorem T6:(prog.info? 31).isSome=true:=by kernel_rfl
theorem Q2:prog.cellsOf 31=2:=by kernel_rfl
/- isOwn and named. -/
def own (n:Int):Bool:=decide (1≤n)&&decide (n<32768)
theorem y_ (n:Int) (w:World):Calls prog 202 #[.int .i64 n] w fun e w'=>e=.returned (.bool (own n))∧w'=w:=by
 by_cases h0:1≤n
 ·by_cases h1:n<32768
  ·go_enter func202,ntmps202;go_wp2
   go_ret;exact ⟨ae (by simp [own,h0,h1]),rfl⟩
  ·go_enter func202,ntmps202;go_wp2
   go_ret;exact ⟨ae (by simp [own,h0,h1]),rfl⟩
 ·go_enter func202,ntmps202;go_wp2
  go_ret;exact ⟨ae (by simp [own];omega),rfl⟩
set_option maxRecDepth 100000 in
theorem yX (n c:Nat) (hn:n≤21) (x y:Int) (w:World) (hK:bq w B f):
  Calls prog 203 #[.slice (some ⟨B,0,none⟩) n c,.int .i64 x,.int .i64 y] w fun e w'=>e=.returned (.bool (Ex f n x y))∧Below w.heap.size w w':=by
 go_enter func203,ntmps203;go_wp2_with fail
 go_loopw [11] (fun i wx=>∃k:Nat,k≤n∧i=.int .i64 (k:Int)∧Below w.heap.size w wx∧∀j,j<k→dW (f j) x y=false) (fun i _=>n - (intOf i).toNat)
 case atStart=>exact ⟨0,by omega,rfl,Below.refl _ _,fun j hj=>by omega⟩
 case round=>
  obtain ⟨k,hk,rfl,hb,hf⟩:=hrel;have HB:Hid (Below w.heap.size w wr):=hb;have HF:Hid (∀j,j<k→dW (f j) x y=false):=hf;have hK2:=hK.later hb;clear hb hf;by_cases dA:k<n
  ·have i1:(0:Int)≤(k:Int):=by omega
   have i2:(k:Int)<(n:Int):=by omega
   obtain ⟨c0,c1⟩:=hK2.cells k (by omega);have rC:Hid (Below wr.heap.size wr (wr.alloc (.cells #[.int .i64 (f k).aB,.int .i64 (f k).bp] 31))):=lh wr (f k);have HE:Hid (dW (f k) x y=(decide (x≤(f k).aB)&&decide ((f k).aB<y))):=rfl;have HY:Hid (dW (f k) x y=true→Ex f n x y=true):=ql dA;obtain ⟨e,he⟩:∃e,f k=e:=⟨_,rfl⟩;have HKE:Hid (f k=e):=he;rw [he] at c0 c1 rC HE HY;clear he hK2;by_cases g1:x≤e.aB
   ·by_cases g2:e.aB<y
    ·go_wp2_with fail
     go_ret;exact ⟨ae (by rw [HY.out (by rw [HE.out,decide_eq_true g1,decide_eq_true g2];rfl)]),HB.out.trans (rC.out.mono HB.out.size)⟩
    ·go_wp2_with fail
     go_roundw
     case rel=>
      refine ⟨k+1,by omega,by go_num,HB.out.trans (rC.out.mono HB.out.size),fun j hj=>?_⟩;rcases Nat.lt_or_ge j k with h | h
      ·exact HF.out j h
      ·obtain rfl:j=k:=by omega
       rw [HKE.out,HE.out,decide_eq_false g2,Bool.and_false]
     case measure=>simp [intOf];omega
   ·go_wp2_with fail
    go_roundw
    case rel=>
     refine ⟨k+1,by omega,by go_num,HB.out.trans (rC.out.mono HB.out.size),fun j hj=>?_⟩;rcases Nat.lt_or_ge j k with h | h
     ·exact HF.out j h
     ·obtain rfl:j=k:=by omega
      rw [HKE.out,HE.out,decide_eq_false g1,Bool.false_and]
    case measure=>simp [intOf];omega
  ·obtain rfl:k=n:=by omega
   have hd:decide ((k:Int)<(k:Int))=false:=by simp
   go_wp2_with fail
   go_ret;exact ⟨ae (by rw [Au HF.out]),HB.out⟩
open Go.RowKit
variable {b p s:Int}
def yZ (b s:Int):Bool:=decide (1≤b)&&(decide (b<32768)&&(decide (1≤s)&&decide (s≤200)))
def kE (b s p:Int):Int:=if b=0 then 16 else if yZ b s then (if p<s then 21 else if s+255<p then 4 else 0) else 31
def Ez (b s p:Int):Int:=if kE b s p=0 then b else 0
def Ey (b s p:Int):Int:=if kE b s p=0 then p - s else 0
def dv (b s p:Int):Ending:=.returned (.tuple #[.agg #[.int .i64 (Ez b s p),.int .i64 (Ey b s p)],.int .i64 (kE b s p)])
theorem dv.no {x:Int} (h:kE b s p=x) (hx:x≠0):Ending.returned (.tuple #[.agg #[.int .i64 0,.int .i64 0],.int .i64 x])=dv b s p:=by
 unfold dv Ez Ey;rw [h,if_neg hx,if_neg hx]
theorem dv.yes (h:kE b s p=0):Ending.returned (.tuple #[.agg #[.int .i64 b,.int .i64 (p - s)],.int .i64 0])=dv b s p:=by
 unfold dv Ez Ey;rw [h,if_pos rfl,if_pos rfl]
theorem AA:kE 0 s p=16:=rfl
theorem ke (h0:¬b=0) (h:yZ b s=false):kE b s p=31:=by unfold kE;rw [if_neg h0,h];rfl
theorem Ix (h0:¬b=0) (h:yZ b s=true) (h1:p<s):kE b s p=21:=by unfold kE;rw [if_neg h0,h,if_pos rfl,if_pos h1]
theorem Iy (h0:¬b=0) (h:yZ b s=true) (h1:¬p<s) (h2:s+255<p):kE b s p=4:=by unfold kE;rw [if_neg h0,h,if_pos rfl,if_neg h1,if_pos h2]
theorem FV (h0:¬b=0) (h:yZ b s=true) (h1:¬p<s) (h2:¬s+255<p):kE b s p=0:=by unfold kE;rw [if_neg h0,h,if_pos rfl,if_neg h1,if_neg h2]
theorem V' (h:¬1≤b):yZ b s=false:=by unfold yZ;rw [decide_eq_false h];rfl
theorem V_ (h:¬b<32768):yZ b s=false:=by unfold yZ;rw [decide_eq_false h,Bool.false_and,Bool.and_false]
theorem V9 (h:¬1≤s):yZ b s=false:=by unfold yZ;rw [decide_eq_false h,Bool.false_and,Bool.and_false,Bool.and_false]
theorem V8 (h:¬s≤200):yZ b s=false:=by unfold yZ;rw [decide_eq_false h,Bool.and_false,Bool.and_false,Bool.and_false]
theorem FU (h1:1≤b) (h2:b<32768) (h3:1≤s) (h4:s≤200):yZ b s=true:=by unfold yZ;rw [decide_eq_true h1,decide_eq_true h2,decide_eq_true h3,decide_eq_true h4];rfl
theorem eZ (w:World) (o o':Obj):Below w.heap.size w ((w.alloc o).alloc o'):=Below.more (aX _ _) _
theorem FY (who b s p:Int) (hp:p<9223372036854775808) (w:World):
  Calls prog 206 #[.agg #[.int .i64 who,.int .i64 b,.int .i64 s],.int .i64 p] w fun e w'=>e=dv b s p∧Below w.heap.size w w':=by
 have ho:=y_ b;by_cases h0:b=0
 ·have HE:Hid (kE b s p=16):=by rw [h0];exact AA
  subst h0;go_enter func206,ntmps206;go_wp2_with fail
  exact bodyPost_ret (v:=.tuple #[.agg #[.int .i64 0,.int .i64 0],.int .i64 16]) (by simp [results,results206,go_sem]) rfl ⟨dv.no HE.out (by decide),eZ _ _ _⟩
 ·have WI:(b==0)=false:=by simp [h0]
  by_cases h1:1≤b
  ·by_cases h2:b<32768
   ·rw [show own b=true by simp [own,h1,h2]] at ho;by_cases h3:1≤s
    ·by_cases h4:s≤200
     ·have hR:yZ b s=true:=FU h1 h2 h3 h4;have HR:Hid (yZ b s=true):=hR;clear hR;by_cases h5:p<s
      ·have hu2:=hp;have HE:Hid (kE b s p=21):=Ix h0 HR.out h5;go_enter func206,ntmps206;go_wp2_with (go_at_call 202;refine (ho _).mono ?_;rintro e w' ⟨rfl,rfl⟩)
       exact bodyPost_ret (v:=.tuple #[.agg #[.int .i64 0,.int .i64 0],.int .i64 21]) (by simp [results,results206,go_sem]) rfl ⟨dv.no HE.out (by decide),eZ _ _ _⟩
      ·have Lf:IntKind.i64.wrap (p - s)=p - s:=bC _ (by omega) (by omega);by_cases h6:s+255<p
       ·have ha:=zA b 0 (p - s) ⟨h1,by omega,by omega,by omega⟩ (Or.inr (by omega));have HE:Hid (kE b s p=4):=Iy h0 HR.out h5 h6;have hn:=heap_alloc_last (w.alloc (.cells #[.int .i64 who,.int .i64 b,.int .i64 s] 35)) (.cells #[.int .i64 0,.int .i64 0] 31);rw [World.size_alloc] at hn;go_enter func206,ntmps206;go_wp2_with (go_at_call 202;refine (ho _).mono ?_;rintro e w' ⟨rfl,rfl⟩)
        refine (ha _).mono ?_;rintro e w2 ⟨rfl,hb2⟩;have hk2:=(hb2.block (w.heap.size+1) (by simp)).trans hn;have bm:Hid (Below w.heap.size w w2):=(eZ w _ _).trans (hb2.mono (by simp;omega));have c0:=cell_of_row w2 (w.heap.size+1) 0 _ _ _ hk2;have c1:=cell_of_row w2 (w.heap.size+1) 1 _ _ _ hk2;have f0:=ax hk2 0;have f1:=ax hk2 1;have HS0:Hid (((w2.setCell ⟨w.heap.size+1,0,none⟩ (.int .i64 0)).setCell ⟨w.heap.size+1,1,none⟩ (.int .i64 0)).heap[w.heap.size+1]? =some (.cells #[.int .i64 0,.int .i64 0] 31 (0,0))):=aO (aO hk2 0 (.int .i64 0)) 1 (.int .i64 0);clear hn hk2 ha hb2;simp at c0 c1;go_wp2_with fail
        have yq:=HS0.out;have dR:=ei bm.out (B:=w.heap.size+1) (by omega) 0 1 (.int .i64 0) (.int .i64 0);generalize (w2.setCell ⟨w.heap.size+1,0,none⟩ (.int .i64 0)).setCell ⟨w.heap.size+1,1,none⟩ (.int .i64 0)=w3 at *;have d0:=cell_of_row w3 (w.heap.size+1) 0 _ _ _ yq;have d1:=cell_of_row w3 (w.heap.size+1) 1 _ _ _ yq;simp at d0 d1;exact bodyPost_ret (v:=.tuple #[.agg #[.int .i64 0,.int .i64 0],.int .i64 4]) (by simp [results,results206,go_sem,d0,d1]) rfl ⟨dv.no HE.out (by decide),dR⟩
       ·have ha:=zz b 0 (p - s) ⟨h1,by omega,by omega,by omega⟩ (by omega) (by omega);rw [Int.zero_add] at ha;have HE:Hid (kE b s p=0):=FV h0 HR.out h5 h6;have hn:=heap_alloc_last (w.alloc (.cells #[.int .i64 who,.int .i64 b,.int .i64 s] 35)) (.cells #[.int .i64 0,.int .i64 0] 31);rw [World.size_alloc] at hn;go_enter func206,ntmps206;go_wp2_with (go_at_call 202;refine (ho _).mono ?_;rintro e w' ⟨rfl,rfl⟩)
        refine (ha _).mono ?_;rintro e w2 ⟨rfl,hb2⟩;have hk2:=(hb2.block (w.heap.size+1) (by simp)).trans hn;have bm:Hid (Below w.heap.size w w2):=(eZ w _ _).trans (hb2.mono (by simp;omega));have c0:=cell_of_row w2 (w.heap.size+1) 0 _ _ _ hk2;have c1:=cell_of_row w2 (w.heap.size+1) 1 _ _ _ hk2;have f0:=ax hk2 0;have f1:=ax hk2 1;have HS0:Hid (((w2.setCell ⟨w.heap.size+1,0,none⟩ (.int .i64 b)).setCell ⟨w.heap.size+1,1,none⟩ (.int .i64 (p - s))).heap[w.heap.size+1]? =some (.cells #[.int .i64 b,.int .i64 (p - s)] 31 (0,0))):=aO (aO hk2 0 (.int .i64 b)) 1 (.int .i64 (p - s));clear hn hk2 ha hb2;simp at c0 c1;go_wp2_with fail
        have yq:=HS0.out;have dR:=ei bm.out (B:=w.heap.size+1) (by omega) 0 1 (.int .i64 b) (.int .i64 (p - s));generalize (w2.setCell ⟨w.heap.size+1,0,none⟩ (.int .i64 b)).setCell ⟨w.heap.size+1,1,none⟩ (.int .i64 (p - s))=w3 at *;have d0:=cell_of_row w3 (w.heap.size+1) 0 _ _ _ yq;have d1:=cell_of_row w3 (w.heap.size+1) 1 _ _ _ yq;simp at d0 d1;exact bodyPost_ret (v:=.tuple #[.agg #[.int .i64 b,.int .i64 (p - s)],.int .i64 0]) (by simp [results,results206,go_sem,d0,d1]) rfl ⟨dv.yes HE.out,dR⟩
     ·have hu3:=hp;have HE:Hid (kE b s p=31):=ke h0 (V8 h4);go_enter func206,ntmps206;go_wp2_with (go_at_call 202;refine (ho _).mono ?_;rintro e w' ⟨rfl,rfl⟩)
      exact bodyPost_ret (v:=.tuple #[.agg #[.int .i64 0,.int .i64 0],.int .i64 31]) (by simp [results,results206,go_sem]) rfl ⟨dv.no HE.out (by decide),eZ _ _ _⟩
    ·have hu4:=hp;have HE:Hid (kE b s p=31):=ke h0 (V9 h3);go_enter func206,ntmps206;go_wp2_with (go_at_call 202;refine (ho _).mono ?_;rintro e w' ⟨rfl,rfl⟩)
     exact bodyPost_ret (v:=.tuple #[.agg #[.int .i64 0,.int .i64 0],.int .i64 31]) (by simp [results,results206,go_sem]) rfl ⟨dv.no HE.out (by decide),eZ _ _ _⟩
   ·rw [show own b=false by simp [own,h1,h2]] at ho;have HE:Hid (kE b s p=31):=ke h0 (V_ h2);go_enter func206,ntmps206;go_wp2_with (go_at_call 202;refine (ho _).mono ?_;rintro e w' ⟨rfl,rfl⟩)
    exact bodyPost_ret (v:=.tuple #[.agg #[.int .i64 0,.int .i64 0],.int .i64 31]) (by simp [results,results206,go_sem]) rfl ⟨dv.no HE.out (by decide),eZ _ _ _⟩
  ·rw [show own b=false by simp [own];omega] at ho;have HE:Hid (kE b s p=31):=ke h0 (V' h1);go_enter func206,ntmps206;go_wp2_with (go_at_call 202;refine (ho _).mono ?_;rintro e w' ⟨rfl,rfl⟩)
   exact bodyPost_ret (v:=.tuple #[.agg #[.int .i64 0,.int .i64 0],.int .i64 31]) (by simp [results,results206,go_sem]) rfl ⟨dv.no HE.out (by decide),eZ _ _ _⟩
theorem CE (who b s p:Int) (hp:p<9223372036854775808) (w:World):
  Calls prog 128 #[.agg #[.int .i64 who,.int .i64 b,.int .i64 s],.int .i64 p] w fun e w'=>e=dv b s p∧Below w.heap.size w w':=by
 by_cases h0:b=0
 ·have HE:Hid (kE b s p=16):=by rw [h0];exact AA
  subst h0;go_enter func128,ntmps128;go_wp2_with fail
  exact bodyPost_ret (v:=.tuple #[.agg #[.int .i64 0,.int .i64 0],.int .i64 16]) (by simp [results,results128,go_sem]) rfl ⟨dv.no HE.out (by decide),eZ _ _ _⟩
 ·have WI:(b==0)=false:=by simp [h0]
  by_cases h1:1≤b
  ·by_cases h2:b<32768
   ·have hu:=hp;by_cases h3:1≤s
    ·by_cases h4:s≤200
     ·have hR:yZ b s=true:=FU h1 h2 h3 h4;have HR:Hid (yZ b s=true):=hR;clear hR;by_cases h5:p<s
      ·have hu2:=hp;have HE:Hid (kE b s p=21):=Ix h0 HR.out h5;go_enter func128,ntmps128;go_wp2_with fail
       exact bodyPost_ret (v:=.tuple #[.agg #[.int .i64 0,.int .i64 0],.int .i64 21]) (by simp [results,results128,go_sem]) rfl ⟨dv.no HE.out (by decide),eZ _ _ _⟩
      ·have Lf:IntKind.i64.wrap (p - s)=p - s:=bC _ (by omega) (by omega);by_cases h6:s+255<p
       ·have uh:IntKind.i64.wrap (s+255)=s+255:=bC _ (by omega) (by omega);have HE:Hid (kE b s p=4):=Iy h0 HR.out h5 h6;go_enter func128,ntmps128;go_wp2_with fail
        exact bodyPost_ret (v:=.tuple #[.agg #[.int .i64 0,.int .i64 0],.int .i64 4]) (by simp [results,results128,go_sem]) rfl ⟨dv.no HE.out (by decide),eZ _ _ _⟩
       ·have uh:IntKind.i64.wrap (s+255)=s+255:=bC _ (by omega) (by omega);have HE:Hid (kE b s p=0):=FV h0 HR.out h5 h6;go_enter func128,ntmps128;go_wp2_with fail
        exact bodyPost_ret (v:=.tuple #[.agg #[.int .i64 b,.int .i64 (p - s)],.int .i64 0]) (by simp [results,results128,go_sem]) rfl ⟨dv.yes HE.out,eZ _ _ _⟩
     ·have hu3:=hp;have HE:Hid (kE b s p=31):=ke h0 (V8 h4);go_enter func128,ntmps128;go_wp2_with fail
      exact bodyPost_ret (v:=.tuple #[.agg #[.int .i64 0,.int .i64 0],.int .i64 31]) (by simp [results,results128,go_sem]) rfl ⟨dv.no HE.out (by decide),eZ _ _ _⟩
    ·have hu4:=hp;have HE:Hid (kE b s p=31):=ke h0 (V9 h3);go_enter func128,ntmps128;go_wp2_with fail
     exact bodyPost_ret (v:=.tuple #[.agg #[.int .i64 0,.int .i64 0],.int .i64 31]) (by simp [results,results128,go_sem]) rfl ⟨dv.no HE.out (by decide),eZ _ _ _⟩
   ·have hu:=hp;have HE:Hid (kE b s p=31):=ke h0 (V_ h2);go_enter func128,ntmps128;go_wp2_with fail
    exact bodyPost_ret (v:=.tuple #[.agg #[.int .i64 0,.int .i64 0],.int .i64 31]) (by simp [results,results128,go_sem]) rfl ⟨dv.no HE.out (by decide),eZ _ _ _⟩
  ·have hu:=hp;have HE:Hid (kE b s p=31):=ke h0 (V' h1);go_enter func128,ntmps128;go_wp2_with fail
   exact bodyPost_ret (v:=.tuple #[.agg #[.int .i64 0,.int .i64 0],.int .i64 31]) (by simp [results,results128,go_sem]) rfl ⟨dv.no HE.out (by decide),eZ _ _ _⟩
end Go.Proofs.YtanaapfobpgibaaGreatDoor.Rt
