/- RtMath, RtA, RtH, joined. -/
import Derived.Test.YtoimkngkcliinaaGreatDoorJKeyMath
import Derived.WalkKit
import Derived.Deep.WholeRow
import Derived.Deep.LoopGhost
import Derived.Deep.DeepCutAuto
import Derived.Laws.ResultCell
import Derived.Laws.Rows
import Derived.Great.Walk
import Derived.ChangeKeysEq
import Derived.BigQuiet
import Derived.LoopTactic
namespace Go.Proofs.YtoimkngkcliinaaGreatDoor.Rt
set_option linter.unusedVariables false
set_option maxRecDepth 4000
set_option linter.unusedSimpArgs false
/- A key. -/
structure Ky where
 bas:Int
 stp:Int
theorem Ky.ext' {a b:Ky} (h1:a.bas=b.bas) (h2:a.stp=b.stp):a=b:=by cases a;cases b;simp_all
def zK:Ky:=⟨0,0⟩
def Ky.fld (e:Ky) (k:Nat):Int:=if k=0 then e.bas else e.stp
/- The 21 keys as cells. -/
def kcs (f:Nat→Ky):Array Value:=Array.ofFn (n:=42) fun i=>.int .i64 ((f (i.1/2)).fld (i.1%2))
@[simp] theorem kcs_size (f:Nat→Ky):(kcs f).size=42:=by simp [kcs]
theorem kcs_at (f:Nat→Ky) (j:Nat) (h:j<42):(kcs f)[j]? =some (.int .i64 ((f (j/2)).fld (j%2))):=by
 rw [Array.getElem?_eq_getElem (by simpa using h)];simp [kcs]
theorem kcs_get (f:Nat→Ky) (i:Nat) (h:i<21):(kcs f)[i * 2]? =some (.int .i64 (f i).bas)∧(kcs f)[i * 2+1]? =some (.int .i64 (f i).stp):=by
 refine ⟨?_,?_⟩
 ·rw [kcs_at f _ (by omega),show i * 2/2=i by omega,show i * 2%2=0 by omega];rfl
 ·rw [kcs_at f _ (by omega),show (i * 2+1)/2=i by omega,show (i * 2+1)%2=1 by omega];rfl
theorem kcs_congr {f g:Nat→Ky} (h:∀i,i<21→f i=g i):kcs f=kcs g:=by
 unfold kcs
 congr 1
 funext i
 rw [h (i.1/2) (by have:=i.2;omega)]
theorem kcs_one (f:Nat→Ky):(kcs f).all (·.oneCell')=true:=by
 rw [Array.all_eq_true];intro i h;simp [kcs,Value.oneCell']
def kup (f:Nat→Ky) (k:Nat) (e:Ky):Nat→Ky:=fun i=>if i=k then e else f i
theorem kup_same (f:Nat→Ky) (k:Nat) (e:Ky):kup f k e k=e:=if_pos rfl
theorem kup_ne (f:Nat→Ky) {k i:Nat} (e:Ky) (h:i≠k):kup f k e i=f i:=if_neg h
theorem kcs_set (f:Nat→Ky) (k:Nat) (e:Ky) (hk:k<21):
  ((kcs f).setIfInBounds (k * 2) (.int .i64 e.bas)).setIfInBounds (k * 2+1) (.int .i64 e.stp)=kcs (kup f k e):=by
 apply Array.ext
 ·simp
 ·intro i h1 h2;simp at h1;rw [Array.getElem_setIfInBounds (by simpa using h1),Array.getElem_setIfInBounds (by simpa using h1)];simp only [kcs,Array.getElem_ofFn];by_cases h:i/2=k
  ·rw [h,kup_same];by_cases c1:k * 2+1=i
   ·rw [if_pos c1,show i%2=1 by omega];rfl
   ·rw [if_neg c1,if_pos (by omega),show i%2=0 by omega];rfl
  ·rw [if_neg (by omega),if_neg (by omega),kup_ne _ _ h]
/- Names, right keys. -/
def nm1 (k:Ky) (a b:Int):Bool:=decide (a≤k.bas)&&decide (k.bas<b)
def nmd (f:Nat→Ky) (n:Nat) (a b:Int):Bool:=(List.range n).any fun i=>nm1 (f i) a b
theorem nmd_yes {f:Nat→Ky} {n i:Nat} {a b:Int} (hi:i<n) (h:nm1 (f i) a b=true):nmd f n a b=true:=by
 unfold nmd;rw [List.any_eq_true];exact ⟨i,List.mem_range.2 hi,h⟩
theorem nmd_no {f:Nat→Ky} {n:Nat} {a b:Int} (h:∀i,i<n→nm1 (f i) a b=false):nmd f n a b=false:=by
 rw [Bool.eq_false_iff];intro hc;unfold nmd at hc;rw [List.any_eq_true] at hc;obtain ⟨i,hi,h2⟩:=hc;rw [h i (List.mem_range.1 hi)] at h2;cases h2
theorem nmd_at {f:Nat→Ky} {n:Nat} {a b:Int} (h:nmd f n a b=false) {i:Nat} (hi:i<n):nm1 (f i) a b=false:=by
 rw [Bool.eq_false_iff];intro hc;rw [nmd_yes hi hc] at h;cases h
theorem nm1_same (k:Ky) (b:Int):nm1 k b (b+1)=decide (k.bas=b):=by
 unfold nm1;rw [Bool.eq_iff_iff];simp;omega
def kok (f:Nat→Ky) (i:Nat):Bool:=gd (f i).bas (f i).stp&&(decide ((f i).bas<32768)&& !nmd f i (f i).bas ((f i).bas+1))
def kchk (f:Nat→Ky):Bool:=(List.range 21).all (kok f)
def kchkE (f:Nat→Ky):Int:=if kchk f then 0 else 31
theorem kchk_good {f:Nat→Ky} (h:∀j,j<21→kok f j=true):kchk f=true:=by
 unfold kchk;rw [List.all_eq_true];intro x hx;exact h x (List.mem_range.1 hx)
theorem kchk_at {f:Nat→Ky} (h:kchk f=true) {k:Nat} (hk:k<21):kok f k=true:=by
 unfold kchk at h;rw [List.all_eq_true] at h;exact h k (List.mem_range.2 hk)
theorem kchk_bad {f:Nat→Ky} {k:Nat} (hk:k<21) (h:kok f k=false):kchk f=false:=by
 rw [Bool.eq_false_iff];intro hc;rw [kchk_at hc hk] at h;cases h
theorem kchkE_tt {f:Nat→Ky} (h:kchk f=true):kchkE f=0:=by unfold kchkE;rw [h];rfl
theorem kchkE_ff {f:Nat→Ky} (h:kchk f=false):kchkE f=31:=by unfold kchkE;rw [h];rfl
theorem gd_iff {b s:Int}:gd b s=true↔Gd b s:=by
 constructor
 ·intro h;simp [gd] at h;exact h
 ·exact gd_yes
theorem kchk_iff {f:Nat→Ky}:kchk f=true↔(∀i,i<21→Gd (f i).bas (f i).stp∧(f i).bas<32768)∧∀i j,i<j→j<21→(f i).bas≠(f j).bas:=by
 constructor
 ·intro h;refine ⟨fun i hi=>?_,fun i j hij hj hb=>?_⟩
  ·have:=kchk_at h hi;unfold kok at this;rw [Bool.and_eq_true,Bool.and_eq_true] at this;exact ⟨gd_iff.1 this.1,by simpa using this.2.1⟩
  ·have:=kchk_at h hj;unfold kok at this;rw [Bool.and_eq_true,Bool.and_eq_true] at this;have h2:=this.2.2;rw [nmd_yes hij (by rw [nm1_same,hb];simp)] at h2;cases h2
 ·rintro ⟨h1,h2⟩;refine kchk_good fun j hj=>?_
  unfold kok;rw [gd_yes (h1 j hj).1,decide_eq_true (h1 j hj).2,nmd_no fun i hi=>?_]
  ·rfl
  ·rw [nm1_same];exact decide_eq_false (h2 i j hi hj)
/- How many bits, from below and from above. -/
def b1 (r v:Nat):Nat:=if r.testBit v then 1 else 0
def cu (r:Nat):Nat→Nat
 | 0=>0
 | k+1=>cu r k+b1 r k
def cd (r:Nat):Nat→Nat
 | 0=>0
 | j+1=>cd r j+b1 r (20 - j)
theorem b1_le (r v:Nat):b1 r v≤1:=by unfold b1;split <;> omega
theorem cd_cu (r:Nat):∀j,j≤21→cd r j+cu r (21 - j)=cu r 21
 | 0,_=>by simp [cd]
 | j+1,h=>by
  have ih:=cd_cu r j (by omega);have e:21 - j=(20 - j)+1:=by omega
  rw [e] at ih;have e2:21 - (j+1)=20 - j:=by omega
  rw [e2];simp only [cd,cu] at ih ⊢;omega
theorem cd_all (r:Nat):cd r 21=cu r 21:=by have:=cd_cu r 21 (by omega);simpa [cu] using this
theorem cd_mono (r:Nat):∀{j k:Nat},j≤k→cd r j≤cd r k
 | j,0,h=>by rw [Nat.le_zero.1 h];exact Nat.le_refl _
 | j,k+1,h=>by
  rcases Nat.lt_or_ge j (k+1) with c | c
  ·have:=cd_mono r (j:=j) (k:=k) (by omega);simp only [cd];omega
  ·rw [show j=k+1 by omega];exact Nat.le_refl _
theorem cu_le (r:Nat):∀k,cu r k≤k
 | 0=>by simp [cu]
 | k+1=>by have:=cu_le r k;have:=b1_le r k;simp only [cu];omega
theorem cd_le (r:Nat):∀k,cd r k≤k
 | 0=>by simp [cd]
 | k+1=>by have:=cd_le r k;have:=b1_le r (20 - k);simp only [cd];omega
theorem cd_lt {r v:Nat} (hv:v<21) (h:r.testBit v=true):cd r (20 - v)<cu r 21:=by
 have h1:=cd_mono r (j:=20 - v+1) (k:=21) (by omega);rw [cd_all] at h1;simp only [cd] at h1;have e:b1 r (20 - (20 - v))=1:=by rw [show 20 - (20 - v)=v by omega];unfold b1;rw [h];rfl
 omega
theorem cu_none {r:Nat}:∀{k:Nat},(∀i,i<k→r.testBit i=false)→cu r k=0
 | 0,_=>rfl
 | k+1,h=>by
  simp only [cu];rw [cu_none fun i hi=>h i (by omega)];unfold b1;rw [h k (by omega)];rfl
theorem cu_pos {r k v:Nat} (hv:v<k) (h:r.testBit v=true):0<cu r k:=by
 induction k with
 | zero=>omega
 | succ k ih=>
  simp only [cu];rcases Nat.lt_or_ge v k with c | c
  ·have:=ih c;omega
  ·have:v=k:=by omega
   subst this;unfold b1;rw [h];simp
/- The turn. -/
def frk (f:Nat→Ky) (r:Nat) (n:Int):Bool:=decide (cu r 21=0)||(decide (1≤n)&&(decide (n≤32768 - (cu r 21:Int))&& !nmd f 21 n (n+(cu r 21:Int))))
def skk (f:Nat→Ky) (r v:Nat):Bool:= !r.testBit v&&decide (254<(f v).stp)
def stuck (f:Nat→Ky) (r:Nat):Bool:=(List.range 21).any (skk f r)
def trE (f:Nat→Ky) (r:Nat) (n:Int):Int:=if kchk f then (if r<2097152 then (if frk f r n then (if stuck f r then 4 else 0) else 3) else 2) else 31
def trK (f:Nat→Ky) (r:Nat) (n:Int) (v:Nat):Ky:=if r.testBit v then ⟨n+(cd r (20 - v):Int),0⟩ else ⟨(f v).bas,(f v).stp+1⟩
def trA (f:Nat→Ky) (r:Nat) (n:Int):Nat→Ky:=if trE f r n=0 then trK f r n else fun _=>zK
def trN (f:Nat→Ky) (r:Nat) (n:Int):Int:=if trE f r n=0 then n+(cu r 21:Int) else 0
/- The keys while the turn goes down: j nodes are done. -/
def trS (g f:Nat→Ky) (r:Nat) (n:Int) (j:Nat):Nat→Ky:=fun v=>if 21≤v+j then trK f r n v else g v
theorem trS_zero (g f:Nat→Ky) (r:Nat) (n:Int):kcs (trS g f r n 0)=kcs g:=kcs_congr fun i hi=>if_neg (by omega)
theorem trS_all (g f:Nat→Ky) (r:Nat) (n:Int):kcs (trS g f r n 21)=kcs (trK f r n):=kcs_congr fun i hi=>if_pos (by omega)
theorem trS_step (g f:Nat→Ky) (r:Nat) (n:Int) {j:Nat} (hj:j<21):trS g f r n (j+1)=kup (trS g f r n j) (20 - j) (trK f r n (20 - j)):=by
 funext v
 show (if 21≤v+(j+1) then trK f r n v else g v)=if v=20 - j then trK f r n (20 - j) else (if 21≤v+j then trK f r n v else g v)
 by_cases h:v=20 - j
 ·subst h;rw [if_pos (by omega),if_pos rfl]
 ·rw [if_neg h];by_cases c:21≤v+j
  ·rw [if_pos (by omega),if_pos c]
  ·rw [if_neg (by omega),if_neg c]
theorem stuck_no {f:Nat→Ky} {r:Nat} (h:∀v,v<21→skk f r v=false):stuck f r=false:=by
 rw [Bool.eq_false_iff];intro hc;unfold stuck at hc;rw [List.any_eq_true] at hc;obtain ⟨i,hi,h2⟩:=hc;rw [h i (List.mem_range.1 hi)] at h2;cases h2
theorem stuck_yes {f:Nat→Ky} {r v:Nat} (hv:v<21) (h:skk f r v=true):stuck f r=true:=by
 unfold stuck;rw [List.any_eq_true];exact ⟨v,List.mem_range.2 hv,h⟩
theorem stuck_at {f:Nat→Ky} {r:Nat} (h:stuck f r=false) {v:Nat} (hv:v<21) (hb:r.testBit v=false):(f v).stp≤254:=by
 have:skk f r v=false:=by
  rw [Bool.eq_false_iff];intro hc;rw [stuck_yes hv hc] at h;cases h
 unfold skk at this;rw [hb] at this;simp at this;omega
theorem trE_wrong {f:Nat→Ky} {r:Nat} {n:Int} (h:kchk f=false):trE f r n=31:=by unfold trE;rw [h];rfl
theorem trE_node {f:Nat→Ky} {r:Nat} {n:Int} (h:kchk f=true) (h2:¬r<2097152):trE f r n=2:=by unfold trE;rw [h,if_pos rfl,if_neg h2]
theorem trE_key {f:Nat→Ky} {r:Nat} {n:Int} (h:kchk f=true) (h2:r<2097152) (h3:frk f r n=false):trE f r n=3:=by unfold trE;rw [h,if_pos rfl,if_pos h2,h3];rfl
theorem trE_step {f:Nat→Ky} {r:Nat} {n:Int} (h:kchk f=true) (h2:r<2097152) (h3:frk f r n=true) (h4:stuck f r=true):trE f r n=4:=by unfold trE;rw [h,if_pos rfl,if_pos h2,h3,h4];rfl
theorem trE_ok {f:Nat→Ky} {r:Nat} {n:Int} (h:kchk f=true) (h2:r<2097152) (h3:frk f r n=true) (h4:stuck f r=false):trE f r n=0:=by unfold trE;rw [h,if_pos rfl,if_pos h2,h3,h4];rfl
theorem trE_cases (f:Nat→Ky) (r:Nat) (n:Int):trE f r n=0∧kchk f=true∧r<2097152∧frk f r n=true∧stuck f r=false∨trE f r n=31∧kchk f=false∨trE f r n=2∨trE f r n=3∨trE f r n=4∧kchk f=true:=by
 cases h:kchk f with
 | false=>exact Or.inr (Or.inl ⟨trE_wrong h,rfl⟩)
 | true=>
  by_cases h2:r<2097152
  ·cases h3:frk f r n with
   | false=>exact Or.inr (Or.inr (Or.inr (Or.inl (trE_key h h2 h3))))
   | true=>
    cases h4:stuck f r with
    | true=>exact Or.inr (Or.inr (Or.inr (Or.inr ⟨trE_step h h2 h3 h4,rfl⟩)))
    | false=>exact Or.inl ⟨trE_ok h h2 h3 h4,rfl,h2,rfl,rfl⟩
  ·exact Or.inr (Or.inr (Or.inl (trE_node h h2)))
theorem trE_good {f:Nat→Ky} {r:Nat} {n:Int} (h:trE f r n=0):kchk f=true∧r<2097152∧frk f r n=true∧stuck f r=false:=by
 rcases trE_cases f r n with ⟨_,h⟩ | ⟨h2,_⟩ | h2 | h2 | ⟨h2,_⟩
 ·exact h
 all_goals (rw [h] at h2;cases h2)
/- What a turn's keys are. -/
theorem frk_at {f:Nat→Ky} {r v:Nat} {n:Int} (h:frk f r n=true) (hv:v<21) (hb:r.testBit v=true):1≤n∧n+(cu r 21:Int)≤32768∧∀i,i<21→¬(n≤(f i).bas∧(f i).bas<n+(cu r 21:Int)):=by
 have hp:=cu_pos hv hb;unfold frk at h;rw [decide_eq_false (by omega),Bool.false_or,Bool.and_eq_true,Bool.and_eq_true] at h;obtain ⟨h1,h2,h3⟩:=h;have h3':nmd f 21 n (n+(cu r 21:Int))=false:=by simpa using h3
 refine ⟨by simpa using h1,by have:=of_decide_eq_true h2;omega,fun i hi hc=>?_⟩;have:=nmd_at h3' hi;unfold nm1 at this;rw [decide_eq_true hc.1,decide_eq_true hc.2] at this;cases this
theorem trK_new {f:Nat→Ky} {r v:Nat} {n:Int} (hb:r.testBit v=true):trK f r n v=⟨n+(cd r (20 - v):Int),0⟩:=by unfold trK;rw [hb];rfl
theorem trK_old {f:Nat→Ky} {r v:Nat} {n:Int} (hb:r.testBit v=false):trK f r n v=⟨(f v).bas,(f v).stp+1⟩:=by unfold trK;rw [hb];rfl
/- No new key of a replaced node has an old one's name. -/
theorem trK_fresh {f:Nat→Ky} {r:Nat} {n:Int} (h:trE f r n=0) {v w:Nat} (hv:v<21) (hw:w<21) (hb:r.testBit v=true):(trK f r n v).bas≠(f w).bas:=by
 obtain ⟨_,_,h3,_⟩:=trE_good h;obtain ⟨_,_,h5⟩:=frk_at h3 hv hb;rw [trK_new hb];intro e;have:=cd_lt hv hb;dsimp only at e;exact h5 w hw ⟨by omega,by omega⟩
theorem trK_gd {f:Nat→Ky} {r:Nat} {n:Int} (h:trE f r n=0) {v:Nat} (hv:v<21):Gd (trK f r n v).bas (trK f r n v).stp∧(trK f r n v).bas<32768:=by
 obtain ⟨h1,h2,h3,h4⟩:=trE_good h;obtain ⟨hg,hl⟩:=(kchk_iff.1 h1).1 v hv
 cases hb:r.testBit v with
 | true=>
  obtain ⟨g1,g2,_⟩:=frk_at h3 hv hb;rw [trK_new hb];have:=cd_lt hv hb;exact ⟨⟨by dsimp only;omega,by dsimp only;omega,by dsimp only;omega,by dsimp only;omega⟩,by dsimp only;omega⟩
 | false=>
  rw [trK_old hb];have:=stuck_at h4 hv hb;obtain ⟨g1,g2,g3,g4⟩:=hg;exact ⟨⟨g1,g2,by dsimp only;omega,by dsimp only;omega⟩,hl⟩
theorem trK_ne {f:Nat→Ky} {r:Nat} {n:Int} (h:trE f r n=0) {v w:Nat} (hvw:v<w) (hw:w<21):(trK f r n v).bas≠(trK f r n w).bas:=by
 obtain ⟨h1,h2,h3,h4⟩:=trE_good h
 cases hb:r.testBit v with
 | true=>
  cases hc:r.testBit w with
  | true=>
   rw [trK_new hb,trK_new hc];have h5:=cd_mono r (j:=20 - w+1) (k:=20 - v) (by omega);simp only [cd] at h5;have e:b1 r (20 - (20 - w))=1:=by rw [show 20 - (20 - w)=w by omega];unfold b1;rw [hc];rfl
   dsimp only;omega
  | false=>
   have:=trK_fresh h (v:=v) (w:=w) (by omega) hw hb;rw [trK_old hc];exact this
 | false=>
  cases hc:r.testBit w with
  | true=>
   have:=trK_fresh h (v:=w) (w:=v) hw (by omega) hc;rw [trK_old hb];exact fun e=>this e.symm
  | false=>
   rw [trK_old hb,trK_old hc];exact (kchk_iff.1 h1).2 v w hvw hw
theorem trK_right {f:Nat→Ky} {r:Nat} {n:Int} (h:trE f r n=0):kchk (trK f r n)=true:=
 kchk_iff.2 ⟨fun i hi=>trK_gd h hi,fun i j hij hj=>trK_ne h hij hj⟩
open Go.RowKit Go.Great
theorem i64_fit (z:Int) (h0: -9223372036854775808≤z) (h1:z<9223372036854775808):IntKind.i64.wrap z=z:=by
 simp only [IntKind.wrap,IntKind.bits,IntKind.signed];simp;omega
theorem infoK:(Tryz.prog.info? 48).map (·.size)=some 42:=by kernel_rfl
def KsAt (w:World) (B:Nat) (f:Nat→Ky):Prop:=w.heap[B]? =some (.cells (kcs f) 48 (0,0))
theorem KsAt.lt {w:World} {B:Nat} {f:Nat→Ky} (h:KsAt w B f):B<w.heap.size:=(Array.getElem?_eq_some_iff.1 h).1
theorem KsAt.below {n:Nat} {w w':World} {B:Nat} {f:Nat→Ky} (h:KsAt w B f) (hb:Below n w w') (hn:B<n):KsAt w' B f:=(hb.block B hn).trans h
theorem KsAt.later {w w':World} {B:Nat} {f:Nat→Ky} (h:KsAt w B f) (hb:Below w.heap.size w w'):KsAt w' B f:=h.below hb h.lt
theorem KsAt.new (w:World) (f:Nat→Ky):KsAt (w.alloc (.cells (kcs f) 48)) w.heap.size f:=heap_alloc_last w _
theorem KsAt.congr {w:World} {B:Nat} {f g:Nat→Ky} (h:KsAt w B f) (e:kcs f=kcs g):KsAt w B g:=by unfold KsAt at *;rw [←e];exact h
theorem alloc_ks (w:World) (f:Nat→Ky):Below w.heap.size w (w.alloc (.cells (kcs f) 48)):=(Below.refl _ w).alloc (Nat.le_refl _) _
theorem alloc_ky (w:World) (k:Ky):Below w.heap.size w (w.alloc (.cells #[.int .i64 k.bas,.int .i64 k.stp] 46)):=(Below.refl _ w).alloc (Nat.le_refl _) _
theorem KsAt.cells {w:World} {B:Nat} {f:Nat→Ky} (h:KsAt w B f) (k:Nat) (hk:k<21):w.cell? ⟨B,k * 2,none⟩=some (.int .i64 (f k).bas)∧w.cell? ⟨B,k * 2+1,none⟩=some (.int .i64 (f k).stp):=by
 obtain ⟨h0,h1⟩:=kcs_get f k hk;exact ⟨(cell_of_row w B _ _ _ _ h).trans h0,(cell_of_row w B _ _ _ _ h).trans h1⟩
/- A key lies in a block. -/
def KyAt (w:World) (B:Nat) (e:Ky):Prop:=w.heap[B]? =some (.cells #[.int .i64 e.bas,.int .i64 e.stp] 46 (0,0))
theorem KyAt.lt {w:World} {B:Nat} {f:Ky} (h:KyAt w B f):B<w.heap.size:=(Array.getElem?_eq_some_iff.1 h).1
theorem KyAt.later {w w':World} {B:Nat} {f:Ky} (h:KyAt w B f) (hb:Below w.heap.size w w'):KyAt w' B f:=(hb.block B h.lt).trans h
theorem KyAt.new (w:World) (e:Ky):KyAt (w.alloc (.cells #[.int .i64 e.bas,.int .i64 e.stp] 46)) w.heap.size e:=heap_alloc_last w _
theorem KyAt.cells {w:World} {B:Nat} {e:Ky} (h:KyAt w B e):w.cell? ⟨B,0,none⟩=some (.int .i64 e.bas)∧w.cell? ⟨B,1,none⟩=some (.int .i64 e.stp):=
 ⟨cell_of_row w B 0 _ _ _ h,cell_of_row w B 1 _ _ _ h⟩
/- Whole loads and stores. -/
theorem ldK {ops:Array Oper} {rest:List Oper} {o:Oper} {a:Act} {w:World} {Q:Exit→Act→World→Prop} {B:Nat} {f:Nat→Ky} (h:KsAt w B f) (hgd:o.guard=none) (x:Operand) (ho:o.op=.load 48 x)
  (hx:a.eval x=.pointer (some ⟨B,0,none⟩)) (k:wpList Tryz.prog ops Q rest (a.put o.dst (.agg (kcs f))) w):wpList Tryz.prog ops Q (o::rest) a w:=
 wpList_load_row hgd 48 x ho B hx 48 (kcs f) (0,0) _ h Tryz.underlying48 rfl (by rw [kcs_size];exact infoK) k
theorem stK {ops:Array Oper} {rest:List Oper} {o:Oper} {a:Act} {w:World} {Q:Exit→Act→World→Prop} {B:Nat} {f g:Nat→Ky} (h:KsAt w B f) (hgd:o.guard=none) (x y:Operand) (ho:o.op=.store 48 x y)
  (hx:a.eval x=.pointer (some ⟨B,0,none⟩)) (hy:a.eval y=.agg (kcs g)) (k:wpList Tryz.prog ops Q rest (a.put o.dst undef) (w.setRow B (kcs g))):wpList Tryz.prog ops Q (o::rest) a w:=
 wpList_store_row hgd 48 x y ho B (kcs g) hx hy 48 (kcs f) h (by rw [kcs_size];exact infoK) (by rw [kcs_size,kcs_size]) (kcs_one g) k
theorem heap_setRow_same {w:World} {g:Nat} {cs:Array Value} {t:TypeId} {fr:Nat×Nat} (h:w.heap[g]? =some (.cells cs t fr)) (cs':Array Value):(w.setRow g cs').heap[g]? =some (.cells cs' t fr):=by
 simp only [World.setRow,Array.getElem?_modify];rw [if_pos trivial,h];rfl
theorem setRow_below {n g:Nat} {w W:World} (hg:n≤g) (h:Below n w W) (cs:Array Value):Below n w (W.setRow g cs):=by
 refine h.trans ⟨rfl,rfl,rfl,by simp,fun k hk=>?_⟩;simp only [World.setRow,Array.getElem?_modify];rw [if_neg (by omega)]
theorem row_other {w:World} {B C:Nat} (h:C≠B) (cs:Array Value):(w.setRow B cs).heap[C]? =w.heap[C]? :=by
 simp only [World.setRow,Array.getElem?_modify];rw [if_neg (fun e=>h e.symm)]
theorem KsAt.row {w:World} {B:Nat} {f:Nat→Ky} (h:KsAt w B f) (g:Nat→Ky):KsAt (w.setRow B (kcs g)) B g:=heap_setRow_same h _
theorem row_frozen {w:World} {B:Nat} {cs:Array Value} {t:TypeId} (h:w.heap[B]? =some (.cells cs t (0,0))) (k:Nat):w.frozen? ⟨B,k,none⟩=false:=by
 simp [World.frozen?,h]
theorem row_setCell {w:World} {B:Nat} {cs:Array Value} {t:TypeId} (h:w.heap[B]? =some (.cells cs t (0,0))) (k:Nat) (v:Value):(w.setCell ⟨B,k,none⟩ v).heap[B]? =some (.cells (cs.setIfInBounds k v) t (0,0)):=by
 simp only [World.setCell,Array.getElem?_modify];rw [if_pos trivial,h];rfl
theorem other_setCell {w:World} {B C:Nat} (h:C≠B) (k:Nat) (v:Value):(w.setCell ⟨B,k,none⟩ v).heap[C]? =w.heap[C]? :=by
 simp only [World.setCell,Array.getElem?_modify];rw [if_neg (fun e=>h e.symm)]
theorem KsAt.set2 {w:World} {B:Nat} {f:Nat→Ky} (h:KsAt w B f) (k:Nat) (hk:k<21) (a b:Int):
  KsAt ((w.setCell ⟨B,k * 2,none⟩ (.int .i64 a)).setCell ⟨B,k * 2+1,none⟩ (.int .i64 b)) B (kup f k ⟨a,b⟩):=by
 have h3:=row_setCell (row_setCell h (k * 2) (.int .i64 a)) (k * 2+1) (.int .i64 b);rw [kcs_set f k ⟨a,b⟩ hk] at h3;exact h3
theorem set2_below {n:Nat} {w W:World} (h:Below n w W) {B:Nat} (hB:n≤B) (i j:Nat) (a b:Value):Below n w ((W.setCell ⟨B,i,none⟩ a).setCell ⟨B,j,none⟩ b):=
 (h.setCell (p:=⟨B,i,none⟩) hB a).setCell (p:=⟨B,j,none⟩) hB b
theorem set2_other {w:World} {B C:Nat} (h:C≠B) (i j:Nat) (a b:Value):((w.setCell ⟨B,i,none⟩ a).setCell ⟨B,j,none⟩ b).heap[C]? =w.heap[C]? :=by
 rw [other_setCell h,other_setCell h]
theorem zero42:(#[Value.int .i64 0,Value.int .i64 0,Value.int .i64 0,Value.int .i64 0,Value.int .i64 0,Value.int .i64 0,Value.int .i64 0,Value.int .i64 0,Value.int .i64 0,Value.int .i64 0,Value.int .i64 0,Value.int .i64 0,Value.int .i64 0,Value.int .i64 0,Value.int .i64 0,Value.int .i64 0,Value.int .i64 0,Value.int .i64 0,Value.int .i64 0,Value.int .i64 0,Value.int .i64 0,Value.int .i64 0,Value.int .i64 0,Value.int .i64 0,Value.int .i64 0,Value.int .i64 0,Value.int .i64 0,Value.int .i64 0,Value.int .i64 0,Value.int .i64 0,Value.int .i64 0,Value.int .i64 0,Value.int .i64 0,Value.int .i64 0,Value.int .i64 0,Value.int .i64 0,Value.int .i64 0,Value.int .i64 0,Value.int .i64 0,Value.int .i64 0,Value.int .i64 0,Value.int .i64 0]:Array Value)=kcs fun _=>zK:=by kernel_rfl
/- A key out of a whole value. -/
theorem extK (f:Nat→Ky) (k:Nat) (hk:k<21):(kcs f).extract (k * 2) (k * 2+2)=#[.int .i64 (f k).bas,.int .i64 (f k).stp]:=by
 obtain ⟨h0,h1⟩:=kcs_get f k hk;have hs:=kcs_size f;apply Array.ext
 ·simp;omega
 ·intro i h3 h4;simp at h4;rw [Array.getElem_extract]
  match i,h4 with
  | 0,_=>simpa using (Array.getElem?_eq_some_iff.1 h0).2
  | 1,_=>simpa using (Array.getElem?_eq_some_iff.1 h1).2
theorem idxK (f:Nat→Ky) (k:Nat) (hk:k<21) (W:World):(Instr.index 48 (.agg (kcs f)) (.int .i64 (k:Int))).run Tryz.prog W=.ok (.agg #[.int .i64 (f k).bas,.int .i64 (f k).stp]) W:=by
 have hk2:(k:Int)<21:=by omega
 have hk3:(0:Int)≤(k:Int):=by omega
 have e:=extK f k hk;have hs:=kcs_size f;generalize kcs f=c at *;simp [Instr.index,asIntOf,hk2,hk3,part,go_sem,e];omega
/- '==' of whole values. -/
def eqY (a b:Ky):Bool:=decide (a.bas=b.bas)&&decide (a.stp=b.stp)
theorem eqY_iff {a b:Ky}:eqY a b=true↔a=b:=by
 simp only [eqY,Bool.and_eq_true,decide_eq_true_eq];exact ⟨fun h=>Ky.ext' h.1 h.2,fun h=>by subst h;simp⟩
theorem run_eqKy (d:Nat) (a b:Ky) (w:World):(Op.equalIn (d+2) 46 (.agg #[.int .i64 a.bas,.int .i64 a.stp]) (.agg #[.int .i64 b.bas,.int .i64 b.stp])).run Tryz.prog w=.ok (eqY a b) w:=by
 rw [run_equalIn_agg w (d+1) 46 _ _ (by kernel_rfl) (by kernel_rfl)];by_cases h1:a.bas=b.bas <;> by_cases h2:a.stp=b.stp <;> simp [eqY,go_sem,part,h1,h2]
def eqA (f g:Nat→Ky):Bool:=(List.range 21).all fun i=>eqY (f i) (g i)
theorem eqA_iff {f g:Nat→Ky}:eqA f g=true↔∀i,i<21→f i=g i:=by
 unfold eqA;rw [List.all_eq_true];exact ⟨fun h i hi=>eqY_iff.1 (h i (List.mem_range.2 hi)),fun h i hi=>eqY_iff.2 (h i (List.mem_range.1 hi))⟩
theorem eqA_refl (f:Nat→Ky):eqA f f=true:=eqA_iff.2 fun _ _=>rfl
theorem partK (f:Nat→Ky) (i:Nat) (hi:i<21) (w:World):(part 46 (kcs f) (i * 2)).run Tryz.prog w=.ok (.agg #[.int .i64 (f i).bas,.int .i64 (f i).stp]) w:=by
 have e:=extK f i hi;simp [part,go_sem,e]
theorem eqItemsK (f g:Nat→Ky) (d:Nat) (w:World):∀l:List Nat,(∀i∈l,i<21)→(Op.eqItems (d+2) 46 2 (kcs f) (kcs g) l).run Tryz.prog w=.ok (l.all fun i=>eqY (f i) (g i)) w
 | [],_=>by simp [Op.eqItems]
 | i::l,h=>by
  have hi:=h i (by simp);have ih:=eqItemsK f g d w l fun j hj=>h j (by simp [hj])
  cases he:eqY (f i) (g i) with
  | false=>simp [Op.eqItems,Sem.run_bind,Sem.run_ite,partK _ i hi,Result.andThen_ok,run_eqKy d,he]
  | true=>simp [Op.eqItems,Sem.run_bind,Sem.run_ite,partK _ i hi,Result.andThen_ok,run_eqKy d,he,ih]
theorem info_ky:(Tryz.prog.info? 46).isSome=true:=by kernel_rfl
theorem cells_ky:Tryz.prog.cellsOf 46=2:=by kernel_rfl
/- isOwn and named. -/
def own (n:Int):Bool:=decide (1≤n)&&decide (n<32768)
theorem isOwn_any (n:Int) (w:World):Calls Tryz.prog 225 #[.int .i64 n] w fun e w'=>e=.returned (.bool (own n))∧w'=w:=by
 by_cases h0:1≤n
 ·by_cases h1:n<32768
  ·go_enter Tryz.func225,Tryz.ntmps225;go_wp2
   go_ret;exact ⟨ret_bool (by simp [own,h0,h1]),rfl⟩
  ·go_enter Tryz.func225,Tryz.ntmps225;go_wp2
   go_ret;exact ⟨ret_bool (by simp [own,h0,h1]),rfl⟩
 ·go_enter Tryz.func225,Tryz.ntmps225;go_wp2
  go_ret;exact ⟨ret_bool (by simp [own];omega),rfl⟩
set_option maxRecDepth 100000 in
set_option maxHeartbeats 1000000 in
theorem named_any {B:Nat} {f:Nat→Ky} (n c:Nat) (hn:n≤21) (x y:Int) (w:World) (hK:KsAt w B f):
  Calls Tryz.prog 226 #[.slice (some ⟨B,0,none⟩) n c,.int .i64 x,.int .i64 y] w fun e w'=>e=.returned (.bool (nmd f n x y))∧Below w.heap.size w w':=by
 go_enter Tryz.func226,Tryz.ntmps226;go_wp2_with fail
 go_loopw [11] (fun i wx=>∃k:Nat,k≤n∧i=.int .i64 (k:Int)∧Below w.heap.size w wx∧∀j,j<k→nm1 (f j) x y=false) (fun i _=>n - (intOf i).toNat)
 case atStart=>exact ⟨0,by omega,rfl,Below.refl _ _,fun j hj=>by omega⟩
 case round=>
  obtain ⟨k,hk,rfl,hb,hf⟩:=hrel;have HB:Hid (Below w.heap.size w wr):=hb;have HF:Hid (∀j,j<k→nm1 (f j) x y=false):=hf;have hK2:=hK.later hb;clear hb hf;by_cases hk8:k<n
  ·have i1:(0:Int)≤(k:Int):=by omega
   have i2:(k:Int)<(n:Int):=by omega
   obtain ⟨c0,c1⟩:=hK2.cells k (by omega);have HBE:Hid (Below wr.heap.size wr (wr.alloc (.cells #[.int .i64 (f k).bas,.int .i64 (f k).stp] 46))):=alloc_ky wr (f k);have HE:Hid (nm1 (f k) x y=(decide (x≤(f k).bas)&&decide ((f k).bas<y))):=rfl;have HY:Hid (nm1 (f k) x y=true→nmd f n x y=true):=nmd_yes hk8;obtain ⟨e,he⟩:∃e,f k=e:=⟨_,rfl⟩;have HKE:Hid (f k=e):=he;rw [he] at c0 c1 HBE HE HY;clear he hK2;by_cases g1:x≤e.bas
   ·by_cases g2:e.bas<y
    ·go_wp2_with fail
     go_ret;exact ⟨ret_bool (by rw [HY.out (by rw [HE.out,decide_eq_true g1,decide_eq_true g2];rfl)]),HB.out.trans (HBE.out.mono HB.out.size)⟩
    ·go_wp2_with fail
     go_roundw
     case rel=>
      refine ⟨k+1,by omega,by go_num,HB.out.trans (HBE.out.mono HB.out.size),fun j hj=>?_⟩;rcases Nat.lt_or_ge j k with h | h
      ·exact HF.out j h
      ·obtain rfl:j=k:=by omega
       rw [HKE.out,HE.out,decide_eq_false g2,Bool.and_false]
     case measure=>simp [intOf];omega
   ·go_wp2_with fail
    go_roundw
    case rel=>
     refine ⟨k+1,by omega,by go_num,HB.out.trans (HBE.out.mono HB.out.size),fun j hj=>?_⟩;rcases Nat.lt_or_ge j k with h | h
     ·exact HF.out j h
     ·obtain rfl:j=k:=by omega
      rw [HKE.out,HE.out,decide_eq_false g1,Bool.false_and]
    case measure=>simp [intOf];omega
  ·obtain rfl:k=n:=by omega
   have hd:decide ((k:Int)<(k:Int))=false:=by simp
   go_wp2_with fail
   go_ret;exact ⟨ret_bool (by rw [nmd_no HF.out]),HB.out⟩
open Go.RowKit
def lfR (b s:Int):Bool:=decide (1≤b)&&(decide (b<32768)&&(decide (1≤s)&&decide (s≤200)))
def lfE (b s p:Int):Int:=if b=0 then 16 else if lfR b s then (if p<s then 21 else if s+255<p then 4 else 0) else 31
def lfB (b s p:Int):Int:=if lfE b s p=0 then b else 0
def lfS (b s p:Int):Int:=if lfE b s p=0 then p - s else 0
def LeafA (b s p:Int):Ending:=.returned (.tuple #[.agg #[.int .i64 (lfB b s p),.int .i64 (lfS b s p)],.int .i64 (lfE b s p)])
theorem LeafA.no {b s p x:Int} (h:lfE b s p=x) (hx:x≠0):Ending.returned (.tuple #[.agg #[.int .i64 0,.int .i64 0],.int .i64 x])=LeafA b s p:=by
 unfold LeafA lfB lfS;rw [h,if_neg hx,if_neg hx]
theorem LeafA.yes {b s p:Int} (h:lfE b s p=0):Ending.returned (.tuple #[.agg #[.int .i64 b,.int .i64 (p - s)],.int .i64 0])=LeafA b s p:=by
 unfold LeafA lfB lfS;rw [h,if_pos rfl,if_pos rfl]
theorem lfE_off {s p:Int}:lfE 0 s p=16:=rfl
theorem lfE_bad {b s p:Int} (h0:¬b=0) (h:lfR b s=false):lfE b s p=31:=by unfold lfE;rw [if_neg h0,h];rfl
theorem lfE_old {b s p:Int} (h0:¬b=0) (h:lfR b s=true) (h1:p<s):lfE b s p=21:=by unfold lfE;rw [if_neg h0,h,if_pos rfl,if_pos h1]
theorem lfE_far {b s p:Int} (h0:¬b=0) (h:lfR b s=true) (h1:¬p<s) (h2:s+255<p):lfE b s p=4:=by unfold lfE;rw [if_neg h0,h,if_pos rfl,if_neg h1,if_pos h2]
theorem lfE_ok {b s p:Int} (h0:¬b=0) (h:lfR b s=true) (h1:¬p<s) (h2:¬s+255<p):lfE b s p=0:=by unfold lfE;rw [if_neg h0,h,if_pos rfl,if_neg h1,if_neg h2]
theorem lfR_1 {b s:Int} (h:¬1≤b):lfR b s=false:=by unfold lfR;rw [decide_eq_false h];rfl
theorem lfR_2 {b s:Int} (h:¬b<32768):lfR b s=false:=by unfold lfR;rw [decide_eq_false h,Bool.false_and,Bool.and_false]
theorem lfR_3 {b s:Int} (h:¬1≤s):lfR b s=false:=by unfold lfR;rw [decide_eq_false h,Bool.false_and,Bool.and_false,Bool.and_false]
theorem lfR_4 {b s:Int} (h:¬s≤200):lfR b s=false:=by unfold lfR;rw [decide_eq_false h,Bool.and_false,Bool.and_false,Bool.and_false]
theorem lfR_ok {b s:Int} (h1:1≤b) (h2:b<32768) (h3:1≤s) (h4:s≤200):lfR b s=true:=by unfold lfR;rw [decide_eq_true h1,decide_eq_true h2,decide_eq_true h3,decide_eq_true h4];rfl
theorem lf_bel (w:World) (o o':Obj):Below w.heap.size w ((w.alloc o).alloc o'):=Below.more (below1 _ _) _
set_option maxHeartbeats 1000000 in
theorem leafAt_any (who b s p:Int) (hp:p<9223372036854775808) (w:World):
  Calls Tryz.prog 176 #[.agg #[.int .i64 who,.int .i64 b,.int .i64 s],.int .i64 p] w fun e w'=>e=LeafA b s p∧Below w.heap.size w w':=by
 have ho:=isOwn_any b;by_cases h0:b=0
 ·have HE:Hid (lfE b s p=16):=by rw [h0];exact lfE_off
  subst h0;go_enter Tryz.func176,Tryz.ntmps176;go_wp2_with fail
  exact bodyPost_ret (v:=.tuple #[.agg #[.int .i64 0,.int .i64 0],.int .i64 16]) (by simp [results,Tryz.results176,go_sem]) rfl ⟨LeafA.no HE.out (by decide),lf_bel _ _ _⟩
 ·have h0':(b==0)=false:=by simp [h0]
  by_cases h1:1≤b
  ·by_cases h2:b<32768
   ·rw [show own b=true by simp [own,h1,h2]] at ho;by_cases h3:1≤s
    ·by_cases h4:s≤200
     ·have hR:lfR b s=true:=lfR_ok h1 h2 h3 h4;have HR:Hid (lfR b s=true):=hR;clear hR;by_cases h5:p<s
      ·have hu2:=hp;have HE:Hid (lfE b s p=21):=lfE_old h0 HR.out h5;go_enter Tryz.func176,Tryz.ntmps176;go_wp2_with (go_at_call 225;refine (ho _).mono ?_;rintro e w' ⟨rfl,rfl⟩)
       exact bodyPost_ret (v:=.tuple #[.agg #[.int .i64 0,.int .i64 0],.int .i64 21]) (by simp [results,Tryz.results176,go_sem]) rfl ⟨LeafA.no HE.out (by decide),lf_bel _ _ _⟩
      ·have hsub:IntKind.i64.wrap (p - s)=p - s:=i64_fit _ (by omega) (by omega);by_cases h6:s+255<p
       ·have ha:=ahead_far b 0 (p - s) ⟨h1,by omega,by omega,by omega⟩ (Or.inr (by omega));have HE:Hid (lfE b s p=4):=lfE_far h0 HR.out h5 h6;have hn:=heap_alloc_last (w.alloc (.cells #[.int .i64 who,.int .i64 b,.int .i64 s] 50)) (.cells #[.int .i64 0,.int .i64 0] 46);rw [World.size_alloc] at hn;go_enter Tryz.func176,Tryz.ntmps176;go_wp2_with (go_at_call 225;refine (ho _).mono ?_;rintro e w' ⟨rfl,rfl⟩)
        refine (ha _).mono ?_;rintro e w2 ⟨rfl,hb2⟩;have hk2:=(hb2.block (w.heap.size+1) (by simp)).trans hn;have HB2:Hid (Below w.heap.size w w2):=(lf_bel w _ _).trans (hb2.mono (by simp;omega));have c0:=cell_of_row w2 (w.heap.size+1) 0 _ _ _ hk2;have c1:=cell_of_row w2 (w.heap.size+1) 1 _ _ _ hk2;have f0:=row_frozen hk2 0;have f1:=row_frozen hk2 1;have HS0:Hid (((w2.setCell ⟨w.heap.size+1,0,none⟩ (.int .i64 0)).setCell ⟨w.heap.size+1,1,none⟩ (.int .i64 0)).heap[w.heap.size+1]? =some (.cells #[.int .i64 0,.int .i64 0] 46 (0,0))):=row_setCell (row_setCell hk2 0 (.int .i64 0)) 1 (.int .i64 0);clear hn hk2 ha hb2;simp at c0 c1;go_wp2_with fail
        have HS1:=HS0.out;have HB3:=set2_below HB2.out (B:=w.heap.size+1) (by omega) 0 1 (.int .i64 0) (.int .i64 0);generalize (w2.setCell ⟨w.heap.size+1,0,none⟩ (.int .i64 0)).setCell ⟨w.heap.size+1,1,none⟩ (.int .i64 0)=w3 at *;have d0:=cell_of_row w3 (w.heap.size+1) 0 _ _ _ HS1;have d1:=cell_of_row w3 (w.heap.size+1) 1 _ _ _ HS1;simp at d0 d1;exact bodyPost_ret (v:=.tuple #[.agg #[.int .i64 0,.int .i64 0],.int .i64 4]) (by simp [results,Tryz.results176,go_sem,d0,d1]) rfl ⟨LeafA.no HE.out (by decide),HB3⟩
       ·have ha:=ahead_yes b 0 (p - s) ⟨h1,by omega,by omega,by omega⟩ (by omega) (by omega);rw [Int.zero_add] at ha;have HE:Hid (lfE b s p=0):=lfE_ok h0 HR.out h5 h6;have hn:=heap_alloc_last (w.alloc (.cells #[.int .i64 who,.int .i64 b,.int .i64 s] 50)) (.cells #[.int .i64 0,.int .i64 0] 46);rw [World.size_alloc] at hn;go_enter Tryz.func176,Tryz.ntmps176;go_wp2_with (go_at_call 225;refine (ho _).mono ?_;rintro e w' ⟨rfl,rfl⟩)
        refine (ha _).mono ?_;rintro e w2 ⟨rfl,hb2⟩;have hk2:=(hb2.block (w.heap.size+1) (by simp)).trans hn;have HB2:Hid (Below w.heap.size w w2):=(lf_bel w _ _).trans (hb2.mono (by simp;omega));have c0:=cell_of_row w2 (w.heap.size+1) 0 _ _ _ hk2;have c1:=cell_of_row w2 (w.heap.size+1) 1 _ _ _ hk2;have f0:=row_frozen hk2 0;have f1:=row_frozen hk2 1;have HS0:Hid (((w2.setCell ⟨w.heap.size+1,0,none⟩ (.int .i64 b)).setCell ⟨w.heap.size+1,1,none⟩ (.int .i64 (p - s))).heap[w.heap.size+1]? =some (.cells #[.int .i64 b,.int .i64 (p - s)] 46 (0,0))):=row_setCell (row_setCell hk2 0 (.int .i64 b)) 1 (.int .i64 (p - s));clear hn hk2 ha hb2;simp at c0 c1;go_wp2_with fail
        have HS1:=HS0.out;have HB3:=set2_below HB2.out (B:=w.heap.size+1) (by omega) 0 1 (.int .i64 b) (.int .i64 (p - s));generalize (w2.setCell ⟨w.heap.size+1,0,none⟩ (.int .i64 b)).setCell ⟨w.heap.size+1,1,none⟩ (.int .i64 (p - s))=w3 at *;have d0:=cell_of_row w3 (w.heap.size+1) 0 _ _ _ HS1;have d1:=cell_of_row w3 (w.heap.size+1) 1 _ _ _ HS1;simp at d0 d1;exact bodyPost_ret (v:=.tuple #[.agg #[.int .i64 b,.int .i64 (p - s)],.int .i64 0]) (by simp [results,Tryz.results176,go_sem,d0,d1]) rfl ⟨LeafA.yes HE.out,HB3⟩
     ·have hu3:=hp;have HE:Hid (lfE b s p=31):=lfE_bad h0 (lfR_4 h4);go_enter Tryz.func176,Tryz.ntmps176;go_wp2_with (go_at_call 225;refine (ho _).mono ?_;rintro e w' ⟨rfl,rfl⟩)
      exact bodyPost_ret (v:=.tuple #[.agg #[.int .i64 0,.int .i64 0],.int .i64 31]) (by simp [results,Tryz.results176,go_sem]) rfl ⟨LeafA.no HE.out (by decide),lf_bel _ _ _⟩
    ·have hu4:=hp;have HE:Hid (lfE b s p=31):=lfE_bad h0 (lfR_3 h3);go_enter Tryz.func176,Tryz.ntmps176;go_wp2_with (go_at_call 225;refine (ho _).mono ?_;rintro e w' ⟨rfl,rfl⟩)
     exact bodyPost_ret (v:=.tuple #[.agg #[.int .i64 0,.int .i64 0],.int .i64 31]) (by simp [results,Tryz.results176,go_sem]) rfl ⟨LeafA.no HE.out (by decide),lf_bel _ _ _⟩
   ·rw [show own b=false by simp [own,h1,h2]] at ho;have HE:Hid (lfE b s p=31):=lfE_bad h0 (lfR_2 h2);go_enter Tryz.func176,Tryz.ntmps176;go_wp2_with (go_at_call 225;refine (ho _).mono ?_;rintro e w' ⟨rfl,rfl⟩)
    exact bodyPost_ret (v:=.tuple #[.agg #[.int .i64 0,.int .i64 0],.int .i64 31]) (by simp [results,Tryz.results176,go_sem]) rfl ⟨LeafA.no HE.out (by decide),lf_bel _ _ _⟩
  ·rw [show own b=false by simp [own];omega] at ho;have HE:Hid (lfE b s p=31):=lfE_bad h0 (lfR_1 h1);go_enter Tryz.func176,Tryz.ntmps176;go_wp2_with (go_at_call 225;refine (ho _).mono ?_;rintro e w' ⟨rfl,rfl⟩)
   exact bodyPost_ret (v:=.tuple #[.agg #[.int .i64 0,.int .i64 0],.int .i64 31]) (by simp [results,Tryz.results176,go_sem]) rfl ⟨LeafA.no HE.out (by decide),lf_bel _ _ _⟩
end Go.Proofs.YtoimkngkcliinaaGreatDoor.Rt
