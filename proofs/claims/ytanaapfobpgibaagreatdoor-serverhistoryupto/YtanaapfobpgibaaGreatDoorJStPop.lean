/- StPop, StB, StF, StI, StJ, StK, joined. -/
import Derived.Test.YtanaapfobpgibaaGreatDoorJStMath
import Derived.WalkSmall
import Derived.Deep.RegionHeld3
open Go.Proofs.Tryz
set_option maxHeartbeats 2000000
namespace Go.Proofs.YtanaapfobpgibaaGreatDoor.Rs
set_option linter.unusedVariables false
set_option maxRecDepth 4000
variable {p0 p1 p2 p3 p4 p5 p6 p7 x:Nat}
theorem fO (k a b m M:Nat) (ha:a<2^k) (hm:m<2^k):(2^k * b+a)&&& (2^k * M+m)=2^k * (b&&& M)+(a&&& m):=by
 apply Nat.eq_of_testBit_eq
 intro i;rw [Nat.testBit_and,Nat.testBit_two_pow_mul_add _ ha,Nat.testBit_two_pow_mul_add _ hm,Nat.testBit_two_pow_mul_add _ (Nat.and_lt_two_pow _ hm)];by_cases h:i<k
 ·simp [h,Nat.testBit_and]
 ·simp [h,Nat.testBit_and]
def stA (M x:Nat):Nat:=(x/2&&& M)+(x&&& M)
def E4 (M x:Nat):Nat:=(x/4&&& M)+(x&&& M)
def stC (M x:Nat):Nat:=(x/16+x)&&& M
def mk (c:Nat):Nat→Nat
 | 0=>0
 | n+1=>256 * mk c n+c
theorem Ki (a b M:Nat) (ha:a<256):stA (256 * M+85) (256 * b+a)=256 * stA M b+stA 85 a:=by
 unfold stA;have h1:(256 * b+a)/2=2^8 * (b/2)+(2^7 * (b%2)+a/2):=by omega
 have h2:(2^7 * (b%2)+a/2)&&& 85=a/2&&& 85:=by
  have:=fO 7 (a/2) (b%2) 85 0 (by omega) (by decide);rw [Nat.mul_zero,Nat.zero_add,Nat.and_zero,Nat.mul_zero,Nat.zero_add] at this;exact this
 have h3:=fO 8 (2^7 * (b%2)+a/2) (b/2) 85 M (by omega) (by decide);have h4:=fO 8 a b 85 M (by omega) (by decide);rw [h2] at h3;rw [h1,show (256:Nat)=2^8 by decide,h3,h4];omega
theorem Kh (a b M:Nat) (ha:a<256):E4 (256 * M+51) (256 * b+a)=256 * E4 M b+E4 51 a:=by
 unfold E4;have h1:(256 * b+a)/4=2^8 * (b/4)+(2^6 * (b%4)+a/4):=by omega
 have h2:(2^6 * (b%4)+a/4)&&& 51=a/4&&& 51:=by
  have:=fO 6 (a/4) (b%4) 51 0 (by omega) (by decide);rw [Nat.mul_zero,Nat.zero_add,Nat.and_zero,Nat.mul_zero,Nat.zero_add] at this;exact this
 have h3:=fO 8 (2^6 * (b%4)+a/4) (b/4) 51 M (by omega) (by decide);have h4:=fO 8 a b 51 M (by omega) (by decide);rw [h2] at h3;rw [h1,show (256:Nat)=2^8 by decide,h3,h4];omega
theorem Kg (a b M:Nat) (ha:a/16≤4) (ha2:a%16≤4) (hb:b%16≤4):stC (256 * M+15) (256 * b+a)=256 * stC M b+(a/16+a%16):=by
 unfold stC;have h1:(256 * b+a)/16+(256 * b+a)=2^8 * (b/16+b)+(2^4 * (b%16+a/16)+(a/16+a%16)):=by omega
 have h3:=fO 8 (2^4 * (b%16+a/16)+(a/16+a%16)) (b/16+b) 15 M (by omega) (by decide)
 have h2:(2^4 * (b%16+a/16)+(a/16+a%16))&&& 15=a/16+a%16:=by
  have:=fO 4 (a/16+a%16) (b%16+a/16) 15 0 (by omega) (by decide);rw [Nat.mul_zero,Nat.zero_add,Nat.and_zero,Nat.mul_zero,Nat.zero_add] at this;rw [this,nat_mask4];omega
 rw [h2] at h3;rw [h1,show (256:Nat)=2^8 by decide,h3]
theorem xf:∀a:Fin 256,stA 85 a.1<256∧E4 51 (stA 85 a.1)/16≤4∧E4 51 (stA 85 a.1)%16≤4∧E4 51 (stA 85 a.1)/16+E4 51 (stA 85 a.1)%16=ct 8 a.1∧ct 8 a.1≤8:=by decide+kernel
def pc:Nat→Nat→Nat
 | 0,_=>0
 | n+1,x=>256 * pc n (x/256)+ct 8 (x%256)
theorem Ih:∀(n x:Nat),x<256^n→E4 (mk 51 n) (stA (mk 85 n) x)%16≤4∧stC (mk 15 n) (E4 (mk 51 n) (stA (mk 85 n) x))=pc n x
 | 0,x,h=>by
  have:x=0:=by simpa using h
  subst this;decide
 | n+1,x,h=>by
  obtain ⟨ih1,ih2⟩:=Ih n (x/256) (by rw [Nat.pow_succ] at h;omega);obtain ⟨h1,h2,h3,h4,h5⟩:=xf ⟨x%256,by omega⟩;dsimp only at h1 h2 h3 h4 h5
  have e1:stA (mk 85 (n+1)) x=256 * stA (mk 85 n) (x/256)+stA 85 (x%256):=by
   have:=Ki (x%256) (x/256) (mk 85 n) (by omega);rw [show 256 * (x/256)+x%256=x by omega] at this;exact this
  have e2:=Kh (stA 85 (x%256)) (stA (mk 85 n) (x/256)) (mk 51 n) h1;rw [e1,show mk 51 (n+1)=256 * mk 51 n+51 from rfl,e2,show mk 15 (n+1)=256 * mk 15 n+15 from rfl,Kg _ _ _ h2 h3 ih1,ih2,h4,pc];exact ⟨by omega,rfl⟩
theorem iA (n x:Nat):ct (n+8) x=ct 8 (x%256)+ct n (x/256):=by
 have e:x/2/2/2/2/2/2/2/2=x/256:=by omega
 simp only [ct];rw [e];omega
theorem nv (y:Nat):ct 8 (y%256)≤8:=(xf ⟨y%256,by omega⟩).2.2.2.2
/- The eight sums, one above the other. -/
theorem Ob (x:Nat):∃p0 p1 p2 p3 p4 p5 p6 p7,p0≤8∧p1≤8∧p2≤8∧p3≤8∧p4≤8∧p5≤8∧p6≤8∧p7≤8∧
  pc 8 x=p0+256 * p1+65536 * p2+16777216 * p3+4294967296 * p4+1099511627776 * p5+281474976710656 * p6+72057594037927936 * p7∧ct 64 x=p0+p1+p2+p3+p4+p5+p6+p7:=by
 refine ⟨_,_,_,_,_,_,_,_,nv x,nv (x/256),nv (x/256/256),nv (x/256/256/256),nv (x/256/256/256/256),nv (x/256/256/256/256/256),nv (x/256/256/256/256/256/256),nv (x/256/256/256/256/256/256/256),?_,?_⟩
 ·simp only [pc];omega
 ·have e0:=iA 56 x;have e1:=iA 48 (x/256);have e2:=iA 40 (x/256/256);have e3:=iA 32 (x/256/256/256);have e4:=iA 24 (x/256/256/256/256);have e5:=iA 16 (x/256/256/256/256/256);have e6:=iA 8 (x/256/256/256/256/256/256);have e7:=iA 0 (x/256/256/256/256/256/256/256);simp only [show ∀y,ct 0 y=0 from fun _=>rfl,Nat.add_zero,Nat.zero_add,Nat.reduceAdd] at e0 e1 e2 e3 e4 e5 e6 e7;rw [e0,e1,e2,e3,e4,e5,e6,e7];omega
theorem GD {a q n r:Nat} (h:a=r+n * q) (hr:r<n):a/n=q:=by
 subst h;rw [Nat.add_mul_div_left _ _ (by omega),Nat.div_eq_of_lt hr,Nat.zero_add]
theorem acj (h0:p0≤8):(p0+256 * p1+65536 * p2+16777216 * p3+4294967296 * p4+1099511627776 * p5+281474976710656 * p6+72057594037927936 * p7)/256=p1+256 * p2+65536 * p3+16777216 * p4+4294967296 * p5+1099511627776 * p6+281474976710656 * p7:=
 GD (r:=p0) (by clear h0;omega) (by omega)
theorem acI (p0 p1 p2 p3 p4 p5 p6 p7:Nat):(p0+256 * p1+65536 * p2+16777216 * p3+4294967296 * p4+1099511627776 * p5+281474976710656 * p6+72057594037927936 * p7)+(p1+256 * p2+65536 * p3+16777216 * p4+4294967296 * p5+1099511627776 * p6+281474976710656 * p7)
  =(p0+p1+256 * (p1+p2))+65536 * ((p2+p3)+256 * (p3+p4)+65536 * (p4+p5)+16777216 * (p5+p6)+4294967296 * (p6+p7)+1099511627776 * p7):=by omega
theorem acH (p0 p1 p2 p3 p4 p5 p6 p7:Nat):(p0+p1+256 * (p1+p2))+65536 * ((p2+p3)+256 * (p3+p4)+65536 * (p4+p5)+16777216 * (p5+p6)+4294967296 * (p6+p7)+1099511627776 * p7)+((p2+p3)+256 * (p3+p4)+65536 * (p4+p5)+16777216 * (p5+p6)+4294967296 * (p6+p7)+1099511627776 * p7)
  =(p0+p1+p2+p3+256 * (p1+p2+p3+p4)+65536 * (p2+p3+p4+p5)+16777216 * (p3+p4+p5+p6))+4294967296 * ((p4+p5+p6+p7)+256 * (p5+p6+p7)+65536 * (p6+p7)+16777216 * p7):=by omega
theorem acG (p0 p1 p2 p3 p4 p5 p6 p7:Nat):(p0+p1+p2+p3+256 * (p1+p2+p3+p4)+65536 * (p2+p3+p4+p5)+16777216 * (p3+p4+p5+p6))+4294967296 * ((p4+p5+p6+p7)+256 * (p5+p6+p7)+65536 * (p6+p7)+16777216 * p7)+((p4+p5+p6+p7)+256 * (p5+p6+p7)+65536 * (p6+p7)+16777216 * p7)
  =(p0+p1+p2+p3+p4+p5+p6+p7)+128 * (2 * (p1+p2+p3+p4+p5+p6+p7)+512 * (p2+p3+p4+p5+p6+p7)+131072 * (p3+p4+p5+p6+p7)+33554432 * ((p4+p5+p6+p7)+256 * (p5+p6+p7)+65536 * (p6+p7)+16777216 * p7)):=by omega
theorem aci {v u t:Nat} (h0:p0≤8) (h1:p1≤8) (h2:p2≤8) (h3:p3≤8) (h4:p4≤8) (h5:p5≤8) (h6:p6≤8) (h7:p7≤8)
  (e1:v=p0+256 * p1+65536 * p2+16777216 * p3+4294967296 * p4+1099511627776 * p5+281474976710656 * p6+72057594037927936 * p7)
  (hu:v+v/256=u) (ht:u+u/65536=t):u<18446744073709551616∧t<18446744073709551616∧t+t/4294967296<9223372036854775808∧(t+t/4294967296)%128=p0+p1+p2+p3+p4+p5+p6+p7:=by
 rw [e1,acj h0,acI] at hu;have d2:u/65536=(p2+p3)+256 * (p3+p4)+65536 * (p4+p5)+16777216 * (p5+p6)+4294967296 * (p6+p7)+1099511627776 * p7:=GD hu.symm (by clear hu ht e1;omega);rw [d2,←hu,acH] at ht;have d3:t/4294967296=(p4+p5+p6+p7)+256 * (p5+p6+p7)+65536 * (p6+p7)+16777216 * p7:=GD ht.symm (by clear hu ht e1 d2;omega);rw [d3,←hu,←ht,acG];clear hu ht e1 d2 d3;refine ⟨by omega,by omega,by omega,?_⟩;rw [Nat.add_mul_mod_self_left];omega
theorem Yb (x:Nat) (v:Nat) (hv:pc 8 x=v):v+v/256<18446744073709551616∧(v+v/256)+(v+v/256)/65536<18446744073709551616∧
  ((v+v/256)+(v+v/256)/65536)+((v+v/256)+(v+v/256)/65536)/4294967296<9223372036854775808∧
  (((v+v/256)+(v+v/256)/65536)+((v+v/256)+(v+v/256)/65536)/4294967296)%128=ct 64 x:=by
 obtain ⟨p0,p1,p2,p3,p4,p5,p6,p7,h0,h1,h2,h3,h4,h5,h6,h7,e1,e2⟩:=Ob x;rw [hv] at e1;rw [e2];exact aci h0 h1 h2 h3 h4 h5 h6 h7 e1 rfl rfl
theorem XM (h:x<18446744073709551616):stA 6148914691236517205 x<18446744073709551616:=by
 unfold stA;have h1:x/2&&& 6148914691236517205≤6148914691236517205:=Nat.and_le_right;have h2:x&&& 6148914691236517205≤6148914691236517205:=Nat.and_le_right;omega
theorem XL (h:x<18446744073709551616):E4 3689348814741910323 x≤7378697629483820646:=by
 unfold E4;have h1:x/4&&& 3689348814741910323≤3689348814741910323:=Nat.and_le_right;have h2:x&&& 3689348814741910323≤3689348814741910323:=Nat.and_le_right;omega
theorem acD:mk 85 8=6148914691236517205:=by decide
theorem acE:mk 51 8=3689348814741910323:=by decide
theorem acF:mk 15 8=1085102592571150095:=by decide
theorem pc8 (h:x<18446744073709551616):stC 1085102592571150095 (E4 3689348814741910323 (stA 6148914691236517205 x))=pc 8 x:=by
 have:=(Ih 8 x h).2;rw [acD,acE,acF] at this;exact this
open Go.RowKit
set_option linter.unusedSimpArgs false
theorem vY (x:Nat) (hx:x<18446744073709551616) (w:World):Calls prog 248 #[.int .u64 (x:Int)] w fun e w'=>e=.returned (.int .i64 (((bl x).length:Nat):Int))∧w'=w:=by
 rw [abL];have hA:=XM hx;have hB:=XL hA;have hv:=pc8 hx;obtain ⟨y,hy⟩:∃y,stA 6148914691236517205 x=y:=⟨_,rfl⟩;obtain ⟨z,hz⟩:∃z,E4 3689348814741910323 y=z:=⟨_,rfl⟩;rw [hy] at hA hB hv;rw [hz] at hB hv;have a1:bits .and .u64 ((x/2:Nat):Int) 6148914691236517205=((x/2&&& 6148914691236517205:Nat):Int):=u64_and_nat (x/2) 6148914691236517205 (by omega) (by decide);have a2:bits .and .u64 (x:Int) 6148914691236517205=((x&&& 6148914691236517205:Nat):Int):=u64_and_nat x 6148914691236517205 hx (by decide)
 have a3:IntKind.u64.wrap (((x/2&&& 6148914691236517205:Nat):Int)+((x&&& 6148914691236517205:Nat):Int))=(y:Int):=by
  unfold stA at hy;rw [jY _ (by omega) (by omega)];omega
 have b1:bits .and .u64 ((y/4:Nat):Int) 3689348814741910323=((y/4&&& 3689348814741910323:Nat):Int):=u64_and_nat (y/4) 3689348814741910323 (by omega) (by decide);have b2:bits .and .u64 (y:Int) 3689348814741910323=((y&&& 3689348814741910323:Nat):Int):=u64_and_nat y 3689348814741910323 hA (by decide)
 have b3:IntKind.u64.wrap (((y/4&&& 3689348814741910323:Nat):Int)+((y&&& 3689348814741910323:Nat):Int))=(z:Int):=by
  unfold E4 at hz;rw [jY _ (by omega) (by omega)];omega
 have c1:IntKind.u64.wrap (((z/16:Nat):Int)+(z:Int))=((z/16+z:Nat):Int):=by rw [jY _ (by omega) (by omega)];omega
 have c2:bits .and .u64 ((z/16+z:Nat):Int) 1085102592571150095=((z/16+z&&& 1085102592571150095:Nat):Int):=u64_and_nat (z/16+z) 1085102592571150095 (by omega) (by decide);unfold stC at hv;obtain ⟨v,hv2⟩:∃v,pc 8 x=v:=⟨_,rfl⟩;obtain ⟨s1,s2,s3,s4⟩:=Yb x v hv2;rw [hv,hv2] at c2;obtain ⟨u,hu⟩:∃u,v+v/256=u:=⟨_,rfl⟩;rw [hu] at s1 s2 s3 s4;obtain ⟨t,ht⟩:∃t,u+u/65536=t:=⟨_,rfl⟩;rw [ht] at s2 s3 s4;obtain ⟨q,hq⟩:∃q,t+t/4294967296=q:=⟨_,rfl⟩;rw [hq] at s3 s4;have d1:IntKind.u64.wrap ((v:Int)+((v/256:Nat):Int))=(u:Int):=by rw [jY _ (by omega) (by omega)];omega
 have d2:IntKind.u64.wrap ((u:Int)+((u/65536:Nat):Int))=(t:Int):=by rw [jY _ (by omega) (by omega)];omega
 have d3:IntKind.u64.wrap ((t:Int)+((t/4294967296:Nat):Int))=(q:Int):=by rw [jY _ (by omega) (by omega)];omega
 have d4:IntKind.i64.wrap (q:Int)=(q:Int):=bC _ (by omega) (by omega);have d5:=i64_and127 (q:Int);have n1:(x:Int)/2=((x/2:Nat):Int):=by omega
 have n2:(y:Int)/4=((y/4:Nat):Int):=by omega
 have n3:(z:Int)/16=((z/16:Nat):Int):=by omega
 have n4:(v:Int)/256=((v/256:Nat):Int):=by omega
 have n5:(u:Int)/65536=((u/65536:Nat):Int):=by omega
 have n6:(t:Int)/4294967296=((t/4294967296:Nat):Int):=by omega
 have HS:Hid (q%128=ct 64 x):=s4;clear hy hz hv hv2 hu ht hq s1 s2 s3 s4 hA hB;generalize (x/2&&& 6148914691236517205)=k1 at *;generalize (x&&& 6148914691236517205)=k2 at *;generalize (y/4&&& 3689348814741910323)=k3 at *;generalize (y&&& 3689348814741910323)=k4 at *;generalize (z/16+z)=k5 at *;generalize x/2=l1 at *;generalize y/4=l2 at *;generalize z/16=l3 at *;generalize v/256=l4 at *;generalize u/65536=l5 at *;generalize t/4294967296=l6 at *;go_enter func248,ntmps248;go_wp2
 go_ret;refine ⟨aj ?_,rfl⟩;have:=HS.out;omega
theorem zu (x:Nat) (hx:x<18446744073709551616) (w:World):Calls prog 197 #[.int .u64 (x:Int)] w fun e w'=>e=.returned (.int .i64 (((bl x).length:Nat):Int))∧w'=w:=by
 go_enter func197,ntmps197;go_wp2_with (go_at_call 248;refine (vY x hx _).mono ?_;rintro e w' ⟨rfl,rfl⟩)
 go_ret;exact ⟨rfl,rfl⟩
open Go.RowKit Go.Maps Go.Shelf
attribute [local go_sem] Oper.semAt_some
set_option linter.unusedVariables false
set_option linter.unusedSimpArgs false
variable {B M b n s:Nat} {W W' w w':World} {v:Value} {e t:TypeId} {xs:List Value}
@[simp] theorem SS (f:Nat):Fence.wide.fn f=True:=by simp [Fence.wide]
attribute [local go_sem] SS
/- What Take answers: the slots, the set, the error. -/
def iL (s:Nat) (n:Int) (w w':World) (e:Ending):Prop:=
 if n<0 then e=.returned (.tuple #[.slice none 0 0,.int .u64 0,.int .i64 1])
 else if ((bl (nt s)).length:Int)<n then e=.returned (.tuple #[.slice none 0 0,.int .u64 0,.int .i64 18])
 else ∃v,e=.returned (.tuple #[v,.int .u64 ((pf s ((bl (nt s)).take n.toNat):Nat):Int),.int .i64 0])∧Z_ w w' v ((bl (nt s)).take n.toNat)
theorem iL.neg {n:Int} (h:n<0):iL s n w w' (.returned (.tuple #[.slice none 0 0,.int .u64 0,.int .i64 1])):=by unfold iL;rw [if_pos h]
theorem iL.full (h:(bl (nt s)).length<M):iL s (M:Int) w w' (.returned (.tuple #[.slice none 0 0,.int .u64 0,.int .i64 18])):=by unfold iL;rw [if_neg (by omega),if_pos (by omega)]
theorem iL.ok (h:M≤(bl (nt s)).length) (hv:Z_ w w' v ((bl (nt s)).take M)):iL s (M:Int) w w' (.returned (.tuple #[v,.int .u64 ((pf s ((bl (nt s)).take M):Nat):Int),.int .i64 0])):=by
 unfold iL;rw [if_neg (by omega),if_neg (by omega)];exact ⟨v,rfl,hv⟩
theorem nC (h:Boxed W B t v) (hb:Below n W W') (hB:B<n):Boxed W' B t v:=(hb.block B hB).trans h
theorem tN (h:Boxed W B t v) (hb:Below W.heap.size W W'):Boxed W' B t v:=nC h hb (Array.getElem?_eq_some_iff.1 h).1
theorem DY (h:Boxed W B t v):B<W.heap.size:=(Array.getElem?_eq_some_iff.1 h).1
theorem yE (h:W.ownsRow b e 1 v n xs):∃a cap,v=.slice a n cap:=by
 rcases h.2 with ⟨rfl,rfl⟩ | ⟨g,cap,cur,rfl,_⟩
 ·exact ⟨none,0,rfl⟩
 ·exact ⟨_,cap,rfl⟩
theorem vv {b':Nat} (h:W.ownsRow b e 1 v n xs) (hb:b'≤b):W.ownsRow b' e 1 v n xs:=by
 obtain ⟨h1,h2⟩:=h;refine ⟨h1,?_⟩;rcases h2 with h2 | ⟨g,cap,cur,rfl,h3,r⟩
 ·exact .inl h2
 ·exact .inr ⟨g,cap,cur,rfl,by omega,r⟩
theorem vx (h:W.ownsRow b e 1 v n xs):W.drew.ownsRow b e 1 v n xs:=h
theorem pQ (h:Below n w W):Below n w W.drew:=h.trans ⟨rfl,rfl,rfl,Nat.le_refl _,fun _ _=>rfl⟩
theorem pO (h:Boxed W B t v):Boxed W.drew B t v:=h
theorem cM {A:Nat} {u:Value} (hB:Boxed W B t u) (hne:A≠B) (v':Value):Boxed (W.setCell ⟨A,0,none⟩ v') B t u:=hB.kept (grownBy_setCell' W A v') (by simp;omega)
theorem ix (W:World) (k:Nat):Below W.heap.size W (W.drewN k):=_root_.Go.below_drewN (Below.refl _ _) _
set_option maxRecDepth 100000 in
theorem S8 (n:Nat) (hn:3≤n) (s:Nat) (hs:s<18446744073709551616) (m:Int) (w:World) (hT:Tb w):
  CallsIn Fence.wide n prog 198 #[.int .u64 (s:Int),.int .i64 m] w fun e w'=>iL s m w w' e∧Below w.heap.size w w':=by
 have h1:1≤n:=by omega
 obtain ⟨i0,hi,hz0,hz1,hz2⟩:=info_parts iW;refine callsIn_of_wp_marks func198 rfl trivial ?_ rfl;simp only [ntmps198,List.size_toArray,List.length_cons,List.length_nil,Nat.reduceAdd,Nat.reduceSub,Array.replicate_succ,Array.replicate_zero,List.push_toArray,List.append_toArray,List.nil_append,List.cons_append];have bS0:=(Boxed.new w 108 (.int .u64 (s:Int))).alloc (.cells #[.int .i64 m] 3);have bN0:=Boxed.new (w.alloc (.cells #[.int .u64 (s:Int)] 108)) 3 (.int .i64 m);simp only [World.size_alloc] at bN0;have Qe:Below w.heap.size w ((w.alloc (.cells #[.int .u64 (s:Int)] 108)).alloc (.cells #[.int .i64 m] 3)):=((Below.refl _ w).alloc (Nat.le_refl _) _).alloc (by simp) _;by_cases hm:m<0
 ·gi_wp2_with fail
  exact ⟨_,results_tmp3 rfl _ _ _,iL.neg hm,Qe⟩
 ·have Lj:¬m<0:=hm;obtain ⟨M,rfl⟩:∃M:Nat,m=(M:Int):=⟨m.toNat,by omega⟩
  gi_wp2_with fail
  have hsz:((w.alloc (.cells #[.int .u64 (s:Int)] 108)).alloc (.cells #[.int .i64 (M:Int)] 3)).heap.size=w.heap.size+2:=by simp
  generalize (w.alloc (.cells #[.int .u64 (s:Int)] 108)).alloc (.cells #[.int .i64 (M:Int)] 3)=w2 at *;have hcs:=bS0.cell;have f_:=bN0.cell;have aa7:bits BinOp.xor IntKind.u64 (if IntKind.u64.signed=true then -1 else IntKind.u64.max) (s:Int)=((nt s:Nat):Int):=by rw [if_neg (by decide)];exact uG s hs
  have aa6:=uG s hs;have Ge:=zu (nt s) (qj s);obtain ⟨L,hL⟩:∃L,(bl (nt s)).length=L:=⟨_,rfl⟩;rw [hL] at Ge;have HL:Hid ((bl (nt s)).length=L):=hL;clear hL
  gi_quiet (first | (gi_at_call 197;exact CallsIn.quiet_of_same (callsIn_wide.2 (Ge _))))
  clear Ge aa7 hcs f_;have hd:=ix w2 nq;have bS:=tN bS0 hd;have bN:=tN bN0 hd;have hB:=Qe.trans (hd.mono Qe.size);have hs3:(w2.drewN nq).heap.size=w.heap.size+2:=hsz;generalize w2.drewN nq=W3 at *;clear hd Qe bS0 bN0 hsz;by_cases BM:(L:Int)<(M:Int)
  ·gi_wp2_with fail
   exact ⟨_,results_tmp3 rfl _ _ _,iL.full (by have:=HL.out;omega),hB⟩
  ·have hcs:=bS.cell
   gi_wp2_with fail
   refine (Nb (n - 1) _ _).mono ?_;rintro e w' ⟨rfl,rfl⟩;have bP:=Boxed.new W3 41 (.slice none 0 0);have bI:=Boxed.new (W3.alloc (.cells #[.slice none 0 0] 41)) 108 (.int .u64 ((nt s:Nat):Int));simp only [World.size_alloc,hs3] at bI bP;have cA:Below W3.heap.size W3 ((W3.alloc (.cells #[.slice none 0 0] 41)).alloc (.cells #[.int .u64 ((nt s:Nat):Int)] 108)):=((Below.refl _ W3).alloc (Nat.le_refl _) _).alloc (by simp) _;have xO:=hB.trans (cA.mono hB.size);have jS:Tb ((W3.alloc (.cells #[.slice none 0 0] 41)).alloc (.cells #[.int .u64 ((nt s:Nat):Int)] 108)):=hT.later xO
   gi_wp2_with fail
   refine wpIn_rangeFunc_ownG rfl h1 (gf:=260) (lb:=#[.pointer (some ⟨w.heap.size+2+1,0,none⟩)]) (by simp [go_sem]) trivial (enters_of func260 (by kernel_rfl) rfl)
    (zW (n - 1) (by omega) (w.heap.size+2+1) w.heap.size (nt s) (qj s) _ (by simp;omega) (by simp;omega) hT.1 jS bI.cell) Below.trans (Bp (by simp;omega)) (Below.refl _ _) (fun _=>rfl)
    (fun pre W=>((∃v,Boxed W (w.heap.size+2) 41 v∧W.ownsRow (w.heap.size+2) 3 1 v (vals pre).length (nI (vals pre))∧True)∧(Boxed W w.heap.size 108 (.int .u64 ((pf s (vals pre):Nat):Int))∧Boxed W (w.heap.size+1) 3 (.int .i64 (M:Int)))∧(pf s (vals pre)<18446744073709551616∧(vals pre).length≤M))∧Below w.heap.size w W)
    (fun c pre W=>((∃v,Boxed W (w.heap.size+2) 41 v∧W.ownsRow (w.heap.size+2) 3 1 v (vals pre.dropLast).length (nI (vals pre.dropLast))∧True)∧Boxed W w.heap.size 108 (.int .u64 ((pf s (vals pre.dropLast):Nat):Int))∧(c=.exit 0∧(vals pre.dropLast).length=M))∧Below w.heap.size w W)
    (OwnFrom.and (OwnFrom.and (Own.from (holdsRow_own (w.heap.size+2) (w.heap.size+2) 41 3 1 (fun pre=>(vals pre).length) (fun pre=>nI (vals pre)) (fun pre v=>True)) _) (OwnFrom.and (OwnFrom.and (Own.from (boxed_own _ _ _) _) (Own.from (boxed_own _ _ _) _)) (CG _))) (ownFrom_below (Nat.le_refl _) (by simp;omega)))
    (fun c=>OwnFrom.and (OwnFrom.and (Own.from (holdsRow_own (w.heap.size+2) (w.heap.size+2) 41 3 1 (fun pre:List (Fin 64)=>(vals pre.dropLast).length) (fun pre=>nI (vals pre.dropLast)) (fun pre v=>True)) _) (OwnFrom.and (Own.from (boxed_own _ _ _) _) (CG _))) (ownFrom_below (Nat.le_refl _) (by simp;omega)))
    ⟨⟨⟨_,bP.alloc _,World.ownsRow_nil _ _ _ _,trivial⟩,⟨(bS.alloc _).alloc _,(bN.alloc _).alloc _⟩,hs,Nat.zero_le _⟩,xO⟩
    (fun x:Fin 64=>{tmps:=#[.int .u64 (s:Int),.int .i64 (M:Int),.pointer (some ⟨w.heap.size,0,none⟩),.pointer (some ⟨w.heap.size+1,0,none⟩),.slice none 0 0,.int .u64 0,.int .i64 0,.pointer (some ⟨w.heap.size+2,0,none⟩),.int .i64 ((x.1:Nat):Int),.int .i64 (M:Int),.bool false,.int .i64 (M:Int),.int .u64 (s:Int),.int .u64 ((nt s:Nat):Int),.int .i64 (L:Int),.bool false,.int .u64 (s:Int),.int .u64 ((nt s:Nat):Int),.func (.func 260) #[] #[.pointer (some ⟨w.heap.size+2+1,0,none⟩)],.int .i64 ((x.1:Nat):Int),undef,undef,undef,undef,undef,undef,undef,undef,undef,undef,undef,undef,undef,undef],defers:=[]}) ?assign ?body ?done ?stop
   case assign=>
    intro lo x W K hK
    gi_wp2
    exact hK
   case body=>
    rintro lo pre x W ⟨⟨⟨v,hv,hrow,-⟩,⟨hS,hN⟩,tD,hle⟩,Qc⟩ hlt;have hc:=hv.cell;have hcS:=hS.cell;have hcN:=hN.cell;have hvl:(vals pre).length<64:=by simpa using hlt
    obtain ⟨a,cap,rfl⟩:=yE hrow;obtain ⟨P,hP⟩:∃P,(vals pre).length=P:=⟨_,rfl⟩;have dF:Hid (W.ownsRow (w.heap.size+2) 3 1 (.slice a (vals pre).length cap) (vals pre).length (nI (vals pre))):=hrow;by_cases hM:P=M
    ·subst hM;rw [hP] at hc hvl;have Mo:Hid ((vals pre).length=P):=hP;clear hP
     gi_wp2_with fail
     refine ⟨KeepsFrom.refl _ _,⟨⟨_,hv,?_,trivial⟩,?_,rfl,?_⟩,Qc⟩
     ·rw [List.dropLast_concat];exact dF.out
     ·rw [List.dropLast_concat];exact hS
     ·rw [List.dropLast_concat];exact Mo.out
    ·have hx:=x.2;have oy:=zy x.1 x.2;have Wp:=u64_or_nat (pf s (vals pre)) (2^x.1) tD (vO hx);rw [Ol,←Ak,←gH] at Wp;generalize 2^x.1=pw at oy Wp;have hpl:pf s (vals (pre++[x]))<18446744073709551616:=by rw [gH,Ak];exact pD tD hx
     rw [hP] at hc hvl hrow hv;have Mo:Hid ((vals pre).length=P):=hP;clear hP;have hMi:¬((P:Int)=(M:Int)):=by omega
     gi_wp2_with (gi_at_builtin;refine wpListIn_append_own _ rfl _ _ 41 rfl (w.heap.size+2) 3 i0 _ 1 8 underlying41 hi hz0 hz1 hz2 rfl (by decide) _ _ _ rfl (hrow.alloc _) ⟨W.heap.size,0,none⟩ 1 1 [.int .i64 ((x.1:Nat):Int)] rfl rfl (cell_one_new _ _ _) (by simp [Value.oneCell']) (by unfold maxLen;omega) (by omega) (by have:=DY hv;simp;omega) ?_;intro v' w1 hown' hgrow _;obtain ⟨g',cap',rfl⟩:=ownsRow_succ hown';obtain ⟨hv1,hv2,hr2,hk2,hb2⟩:=hv.appended (by decide) hrow (by have:=DY hv;omega) (Nat.le_refl _) hown' hgrow;have hc1:=hv1.cell;have Ux:=hv1.frozen)
     have xM:=nC hS hb2 (by omega);have hN5:=nC hN hb2 (by omega);have hKW:=hb2.mono (show w.heap.size≤w.heap.size+2 by omega);have WH:=Qc.trans hKW;generalize w1.setCell ⟨w.heap.size+2,0,none⟩ (.slice (some ⟨g',0,none⟩) (P+1) cap')=W5 at *;clear hc hcS hcN hv1 hc1 Ux hown' hgrow hb2 hrow hv hS hN;have hcS:=xM.cell;have hfS:=xM.frozen
     gi_region_with (refine ⟨fun h=>(by cases h),(CallsIn.inRound lo (callsIn_wide.2 (oy _))).mono ?_⟩;rintro e w' ⟨rfl,rfl⟩)
     all_goals
      have hk3:KeepsOthers W (W5.setCell ⟨w.heap.size,0,none⟩ (.int .u64 ((pf s (vals (pre++[x])):Nat):Int))).drew:=hk2.trans ((KeepsOthers.setCell _ _ _).trans (KeepsOthers.drew _));have hb3:Below w.heap.size W (W5.setCell ⟨w.heap.size,0,none⟩ (.int .u64 ((pf s (vals (pre++[x])):Nat):Int))).drew:=pQ (hKW.setCell (p:=⟨w.heap.size,0,none⟩) (Nat.le_refl _) _);refine ⟨hk3.from _,hb3,⟨⟨_,pO (cM hv2 (by omega) _),?_,trivial⟩,⟨pO (xM.set _),pO (cM hN5 (by omega) _)⟩,hpl,?_⟩,Qc.trans hb3⟩
      ·have e1:nI (vals (pre++[x]))=nI (vals pre)++[.int .i64 ((x.1:Nat):Int)]:=by rw [gH,Iq]
       have e2:(vals (pre++[x])).length=P+1:=by have:=Mo.out;simp at this ⊢;omega
       rw [e1,e2];exact vx (hr2.kept (grownBy_setCell' _ w.heap.size _) (.inr (xM.not_row (by decide) hr2).symm))
      ·have hh:=Mo.out;rw [gH,List.length_append,List.length_singleton];omega
   case done=>
    rintro D ys W hD hys ⟨⟨⟨v,hv,hrow,-⟩,⟨hS,hN⟩,hlt,hle⟩,Qc⟩ hK;rw [hys] at hrow hS hlt hle;have hc:=hv.cell;have hc2:=hS.cell
    gi_wp2
    gi_region
    all_goals gi_wp2
    have fV:=vx hrow;have I1:W.drew.heap[D]? =some (.deferred (some [])):=hK;have WG:=pQ Qc;obtain ⟨Wd,hWd⟩:∃Wd,W.drew=Wd:=⟨_,rfl⟩;rw [hWd] at fV I1 WG ⊢;simp at hD;have hHL:=HL.out;have Dg:Below w.heap.size Wd (Wd.putObj D (.deferred none)):=belowK_b (w:=w) (Nat.le_refl _) Wd D _ _ (by omega) I1 rfl rfl;refine ⟨by simp,.inl ⟨_,_,rfl,run_takeDeferred I1,?_⟩⟩;refine ⟨_,results_tmp3 (t:=4) (u:=5) (v:=6) rfl _ _ _,?_,WG.trans Dg⟩;have abc:(bl (nt s)).length=M:=by omega
    have jo:(bl (nt s)).take M=bl (nt s):=by rw [←abc,List.take_length]
    have:=iL.ok (s:=s) (M:=M) (w:=w) (w':=Wd.putObj D (.deferred none)) (v:=v) (by omega) (by rw [jo];exact vv (ownsRow_putObj fV _ I1 rfl) (by omega));rw [jo] at this;exact this
   case stop=>
    rintro D c pre W hD hp ⟨⟨⟨v,hv,hrow,-⟩,hS,rfl,hpl⟩,Qc⟩ hK;have hc:=hv.cell;have hc2:=hS.cell
    gi_wp2
    gi_region
    all_goals gi_wp2
    have fV:=vx hrow;have I1:W.drew.heap[D]? =some (.deferred (some [])):=hK;have WG:=pQ Qc;obtain ⟨Wd,hWd⟩:∃Wd,W.drew=Wd:=⟨_,rfl⟩;rw [hWd] at fV I1 WG ⊢;simp at hD;have Dg:Below w.heap.size Wd (Wd.putObj D (.deferred none)):=belowK_b (w:=w) (Nat.le_refl _) Wd D _ _ (by omega) I1 rfl rfl;refine ⟨by simp,.inl ⟨_,_,rfl,run_takeDeferred I1,?_⟩⟩;refine ⟨_,results_tmp3 (t:=4) (u:=5) (v:=6) rfl _ _ _,?_,WG.trans Dg⟩
    have jo:(bl (nt s)).take M=vals pre.dropLast:=by
     obtain ⟨r,hr⟩:=hp;rw [←hr,←hpl];rcases List.eq_nil_or_concat pre with rfl | ⟨q,x,rfl⟩
     ·simp [vals]
     ·rw [List.concat_eq_append,List.dropLast_concat,gH,List.append_assoc,List.take_left]
    have hle:M≤(bl (nt s)).length:=by have:=HL.out;omega
    have:=iL.ok (s:=s) (M:=M) (w:=w) (w':=Wd.putObj D (.deferred none)) (v:=v) hle (by rw [jo];exact vv (ownsRow_putObj fV _ I1 rfl) (by omega));rw [jo] at this;exact this
theorem vo (s:Nat) (hs:s<18446744073709551616) (m:Int) (w:World) (hT:Tb w):
  Calls prog 198 #[.int .u64 (s:Int),.int .i64 m] w fun e w'=>iL s m w w' e∧Below w.heap.size w w':=callsIn_wide.1 (S8 3 (by omega) s hs m w hT)
theorem aco (f:Nat→Bool) (w:World) (c:Array Value) (hc:c.size=64):(storeCells ⟨w.heap.size,0,none⟩ (pE f).toList 0).run prog (w.alloc (.cells c 238))=.ok () (w.alloc (.cells (pE f) 238)):=
 run_storeCells_new w 238 c (pE f) (by rw [qf];exact wH) (by rw [hc,qf]) (Ib f)
theorem aa {n:Nat} {w W:World} (h:Below n w W) (hn:n≤w.heap.size) (o:Obj):Below n w (W.alloc o):=h.alloc (Nat.le_trans hn h.size) o
theorem Kt {W w1:World} {n0:Nat} {e:TypeId} {v:Value} {k:Nat} {xs:List Value} {o:Obj} (h:W.ownsRow n0 e 1 v k xs) (hn:n0≤W.heap.size) (hg:(W.alloc o).grownBy w1 v.ownBlock):Below n0 W w1:=by
 refine ((Below.refl n0 W).alloc hn o).trans ⟨hg.os,hg.tape,hg.output,hg.size,fun j hj=>hg.block j (by simp;omega) (fun e=>?_)⟩;rcases h.2 with ⟨rfl,_⟩ | ⟨g,cap,cur,rfl,h3,_⟩
 ·simp [Value.ownBlock] at e
 ·simp [Value.ownBlock] at e;omega
/- The list of places, n of them. -/
theorem JG (s:Nat):∀(n p:Nat),bf s p (n+1)=bf s p n++(if s.testBit (p+n) then [p+n] else [])
 | 0,p=>by simp [bf]
 | n+1,p=>by
  rw [bf,JG s n (p+1),bf,show p+1+n=p+(n+1) by omega];split <;> simp
set_option maxRecDepth 100000 in
theorem KN (s:Nat) (hs':s<18446744073709551616) (w:World):
  Calls prog 125 #[.int .u64 (s:Int)] w fun e w'=>(∃v,e=.returned v∧Z_ w w' v (bl s))∧Below w.heap.size w w':=by
 obtain ⟨i0,hi,hz0,hz1,hz2⟩:=info_parts iW;go_enter func125,ntmps125;go_wp2_with fail
 refine (FA s hs' _).mono ?_;rintro e w' ⟨rfl,hb⟩;have hsc:=fun c=>aco (fun i=>s.testBit i) w' c
 have tD:=qf (fun i=>s.testBit i);have AP:=uC (fun i=>s.testBit i);have hb2:=aa hb (Nat.le_refl _) (.cells (pE fun i=>s.testBit i) 238);generalize (pE fun i=>s.testBit i)=c at *;go_wp2_with fail
 clear hsc tD
 have Gf:∀i,i<64→(w'.alloc (.cells c 238)).cell? ⟨w'.heap.size,i,none⟩=some (.bool (s.testBit i)):=fun i h=>by
  rw [cell_of_row _ _ i c 238 (0,0) (heap_alloc_last w' _)];exact AP i h
 have hsz:w'.heap.size<(w'.alloc (.cells c 238)).heap.size:=by simp
 have hwb:w.heap.size≤w'.heap.size:=hb.size;generalize w'.alloc (.cells c 238)=w2 at *;generalize w'.heap.size=B at *;go_loopw [4,5] (fun v i wx=>∃k:Nat,k≤64∧i=.int .i64 (k:Int)∧wx.ownsRow w2.heap.size 3 1 v (bf s 0 k).length (nI (bf s 0 k))∧Below w2.heap.size w2 wx) (fun _ i _=>64 - (intOf i).toNat)
 case atStart=>exact ⟨0,by omega,rfl,World.ownsRow_nil _ _ _ _,Below.refl _ _⟩
 case round=>
  obtain ⟨k,hk,rfl,hrow,dZ⟩:=hrel;by_cases dA:k<64
  ·have k8:(k:Int)<64:=by omega
   have hcell:wr.cell? ⟨B,k,none⟩=some (.bool (s.testBit k)):=(dZ.cell (p:=⟨B,k,none⟩) hsz).trans (Gf k dA);have F8:=JG s k 0;rw [Nat.zero_add] at F8;have hln:=sP s k 0;have JS:Hid (_=_):=F8;clear AP Gf F8;obtain ⟨l,hl⟩:∃l,bf s 0 k=l:=⟨_,rfl⟩;rw [hl] at hrow hln;have HL:Hid (bf s 0 k=l):=hl;clear hl
   cases hf:s.testBit k with
   | false=>
    rw [hf] at hcell;go_wp2_with fail
    go_roundw
    case rel=>exact ⟨k+1,by omega,by go_num,by rw [JS.out,HL.out,hf,if_neg (by simp),List.append_nil];exact hrow,dZ⟩
    case measure=>simp [intOf];omega
   | true=>
    rw [hf] at hcell;go_wp2_with (at_builtin;(refine wpList_append_own (w:=_) rfl _ _ 41 rfl w2.heap.size 3 i0 _ 1 8 underlying41 hi hz0 hz1 hz2 rfl (by decide) _ _ _ rfl (hrow.alloc _) ⟨wr.heap.size,0,none⟩ 1 1 [.int .i64 (k:Int)] rfl rfl (cell_one_new _ _ _) (by simp [Value.oneCell']) (by unfold maxLen;omega) (by omega) (by have:=dZ.size;simp;omega) ?_);intro v' w1 hown' hgrow _)
    go_roundw
    case rel=>
     refine ⟨k+1,by omega,by go_num,?_,dZ.trans (Kt hrow dZ.size hgrow)⟩;rw [JS.out,HL.out,hf,if_pos rfl,Iq,List.length_append];exact hown'
    case measure=>simp [intOf];omega
  ·obtain rfl:k=64:=by omega
   clear AP Gf;go_wp2_with fail
   go_ret;exact ⟨⟨_,rfl,vv hrow hb2.size⟩,hb2.trans (dZ.mono hb2.size)⟩
theorem pA (s:Nat) (hs:s<18446744073709551616) (w:World):
  Calls prog 81 #[.int .u64 (s:Int)] w fun e w'=>e=.returned (.int .i64 (((bl s).length:Nat):Int))∧Below w.heap.size w w':=by
 go_enter func81,ntmps81;go_wp2_with fail
 refine (KN s hs _).mono ?_;rintro e w' ⟨⟨v,rfl,hv⟩,hb⟩;obtain ⟨a,cap,rfl⟩:=yE hv;clear hv;go_wp2_with fail
 go_ret;exact ⟨rfl,hb⟩
/- Integers in memory. -/
variable {w w':World} {a:Option Addr}
def bM (w:World) (a:Option Addr) (ws:List Int):Prop:=
 ∀i,i<ws.length→∃b o,a=some ⟨b,o,none⟩∧w.cell? ⟨b,o+i,none⟩=some (.int .i64 (ws.getD i 0))
theorem cell_later {a:Addr} {v:Value} (hb:Below w.heap.size w w') (hc:w.cell? a=some v):w'.cell? a=some v:=
 (World.cell?_of_block (hb.block a.block (World.block_lt_of_cell? w a hc))).trans hc
theorem bM.later {ws:List Int} (h:bM w a ws) (hb:Below w.heap.size w w'):bM w' a ws:=fun i hi=>by
 obtain ⟨b,o,e,c0⟩:=h i hi;exact ⟨b,o,e,cell_later hb c0⟩
theorem bM.nil (w:World) (a:Option Addr):bM w a []:=fun i hi=>by cases hi
theorem bM.spot {ws:List Int} (h:bM w a ws) (h0:ws≠[]):∃b o,a=some ⟨b,o,none⟩∧∀i,i<ws.length→w.cell? ⟨b,o+i,none⟩=some (.int .i64 (ws.getD i 0)):=by
 have hp:0<ws.length:=List.length_pos_iff.2 h0;obtain ⟨b,o,e,_⟩:=h 0 hp;refine ⟨b,o,e,fun i hi=>?_⟩;obtain ⟨b',o',e',c0⟩:=h i hi;rw [e] at e';simp at e';obtain ⟨rfl,rfl⟩:=e';exact c0
theorem jg {l:List Int} {k:Nat} (h:k<l.length):l.take (k+1)=l.take k++[l.getD k 0]:=by
 rw [List.take_succ_eq_append_getElem h,List.getD_eq_getElem?_getD,List.getElem?_eq_getElem h];rfl
end Go.Proofs.YtanaapfobpgibaaGreatDoor.Rs
