/- StMath, StA, StC, StD, StE, StG, joined. -/
import Derived.Test.YtanaapfobpgibaaGreatDoorChecked
import Derived.ProofKit
import Derived.WalkSpells
import Derived.RangeFuncNested
import Derived.RangeFuncBound
import Derived.Shelf.RegionOpen
import Derived.OwnWalkIn
import Derived.LoopNIn
import Derived.LoopIn
import Derived.Test.YtanaapfobpgibaaGreatDoorShelf
import Derived.Deep.WholeRow
open Go.Proofs.Tryz
set_option maxHeartbeats 2000000
namespace Go.Proofs.YtanaapfobpgibaaGreatDoor.Rs
set_option linter.unusedVariables false
set_option maxRecDepth 4000
/- The n places from p on whose bits are set. -/
variable {i n s t:Nat}
def bf (s p:Nat):Nat→List Nat
 | 0=>[]
 | n+1=>if s.testBit p then p::bf s (p+1) n else bf s (p+1) n
/- The set's places. -/
def bl (s:Nat):List Nat:=bf s 0 64
theorem xo {s t:Nat}:∀(n p:Nat),(∀i,p≤i→i<p+n→s.testBit i=t.testBit i)→bf s p n=bf t p n
 | 0,_,_=>rfl
 | n+1,p,h=>by
  rw [bf,bf,h p (Nat.le_refl _) (by omega),xo n (p+1) fun i h1 h2=>h i (by omega) (by omega)]
theorem JH {s:Nat}:∀(n p:Nat),(∀i,p≤i→i<p+n→s.testBit i=false)→bf s p n=[]
 | 0,_,_=>rfl
 | n+1,p,h=>by
  rw [bf,h p (Nat.le_refl _) (by omega),JH n (p+1) fun i h1 h2=>h i (by omega) (by omega)];rfl
theorem Bk {s:Nat}:∀(d n p:Nat),d≤n→(∀i,p≤i→i<p+d→s.testBit i=false)→bf s p n=bf s (p+d) (n - d)
 | 0,n,p,_,_=>rfl
 | d+1,0,p,hd,_=>by omega
 | d+1,n+1,p,hd,h=>by
  rw [bf,h p (Nat.le_refl _) (by omega),show n+1 - (d+1)=n - d by omega,show p+(d+1)=p+1+d by omega,←Bk d n (p+1) (by omega) fun i h1 h2=>h i (by omega) (by omega)];rfl
theorem sP (s:Nat):∀(n p:Nat),(bf s p n).length≤n
 | 0,_=>Nat.le_refl _
 | n+1,p=>by
  have:=sP s n (p+1);rw [bf];split
  ·simp;omega
  ·omega
theorem Az {s:Nat}:∀{n p i:Nat},i∈bf s p n↔p≤i∧i<p+n∧s.testBit i=true
 | 0,p,i=>by simp [bf];omega
 | n+1,p,i=>by
  rw [bf];split
  ·rename_i h
   rw [List.mem_cons,Az];constructor
   ·rintro (rfl | ⟨h1,h2,h3⟩)
    ·exact ⟨by omega,by omega,h⟩
    ·exact ⟨by omega,by omega,h3⟩
   ·rintro ⟨h1,h2,h3⟩;by_cases hi:i=p
    ·exact .inl hi
    ·exact .inr ⟨by omega,by omega,h3⟩
  ·rename_i h
   rw [Az];constructor
   ·rintro ⟨h1,h2,h3⟩;exact ⟨by omega,by omega,h3⟩
   ·rintro ⟨h1,h2,h3⟩;have hi:i≠p:=by rintro rfl;exact h h3
    exact ⟨by omega,by omega,h3⟩
theorem Bh:bl 0=[]:=JH _ _ fun i _ _=>by simp
theorem Bi (s:Nat):(bl s).length≤64:=sP _ _ _
/- The lowest bit: its place, and the number without it. -/
def tz (s:Nat):Nat:=Lib.ctz 64 s
theorem uv (h0:s≠0) (h:s<18446744073709551616):∃m,s=2^tz s * (2 * m+1)∧tz s<64:=by
 unfold tz Lib.ctz;rw [if_neg h0];exact Lib.ctzFrom_spec 64 s (by omega) (by simpa using h)
theorem j4 (k m i:Nat):(2^k * (2 * m+1)).testBit i=(decide (k≤i)&&(2 * m+1).testBit (i - k)):=by
 rw [Nat.mul_comm,Nat.testBit_mul_two_pow]
theorem OZ (k m:Nat):2^k * (2 * m+1) - 1=2^(k+1) * m+(2^k - 1):=by
 have h:0<2^k:=Nat.two_pow_pos k;rw [Nat.mul_add,Nat.pow_succ,Nat.mul_one,Nat.mul_assoc];omega
theorem D_ (k m:Nat):(2^k * (2 * m+1))&&& (2^k * (2 * m+1) - 1)=2^(k+1) * m:=by
 have hk:0<2^k:=Nat.two_pow_pos k;rw [OZ];have hs:2^k * (2 * m+1)=2^(k+1) * m+2^k:=by rw [Nat.mul_add,Nat.pow_succ,Nat.mul_one,Nat.mul_assoc]
 rw [hs];apply Nat.eq_of_testBit_eq
 intro i;have mj:2^k<2^(k+1):=by rw [Nat.pow_succ];omega
 rw [Nat.testBit_and,Nat.testBit_two_pow_mul_add _ mj,Nat.testBit_two_pow_mul_add _ (by omega:2^k - 1<2^(k+1)),Nat.mul_comm,Nat.testBit_mul_two_pow];by_cases hi:i<k+1
 ·rw [if_pos hi,if_pos hi,Nat.testBit_two_pow,Nat.testBit_two_pow_sub_one];have h1:(decide (k=i)&&decide (i<k))=false:=by simp;omega
  have h2:decide (k+1≤i)=false:=by simp;omega
  rw [h1,h2];rfl
 ·rw [if_neg hi,if_neg hi,Bool.and_self];have h2:decide (k+1≤i)=true:=by simp;omega
  rw [h2,Bool.true_and]
theorem JB (h0:s≠0) (h:s<18446744073709551616):bl s=tz s::bl (s&&& (s - 1)):=by
 obtain ⟨m,hs,hk⟩:=uv h0 h;obtain ⟨k,hkk⟩:∃k,tz s=k:=⟨_,rfl⟩;rw [hkk] at hs hk ⊢;subst hs;rw [D_]
 have h1:bl (2^k * (2 * m+1))=k::bf (2^k * (2 * m+1)) (k+1) (63 - k):=by
  unfold bl;rw [Bk k 64 0 (by omega) (fun i _ h2=>by rw [j4];simp;omega),show 64 - k=(63 - k)+1 by omega,bf,if_pos (by rw [j4];simp),Nat.zero_add]
 have h2:bl (2^(k+1) * m)=bf (2^(k+1) * m) (k+1) (63 - k):=by
  unfold bl;rw [Bk (k+1) 64 0 (by omega) (fun i _ h2=>by rw [Nat.mul_comm,Nat.testBit_mul_two_pow];simp;omega),show 64 - (k+1)=63 - k by omega,Nat.zero_add]
 rw [h1,h2]
 congr 1
 apply xo
 intro i h3 h4;rw [j4,Nat.mul_comm (2^(k+1)) m,Nat.testBit_mul_two_pow];have e1:decide (k≤i)=true:=by simp;omega
 have e2:decide (k+1≤i)=true:=by simp;omega
 rw [e1,e2,Bool.true_and,Bool.true_and,show i - k=(i - (k+1))+1 by omega,Nat.testBit_succ]
 congr 1
 omega
theorem ZZ (h0:s≠0):s&&& (s - 1)<s:=by
 have:s&&& (s - 1)≤s - 1:=Nat.and_le_right;omega
/- How many bits are set: n of them, from the lowest up. -/
def ct:Nat→Nat→Nat
 | 0,_=>0
 | n+1,s=>s%2+ct n (s/2)
theorem Bo (s:Nat):∀(n p:Nat),(bf s (p+1) n).length=(bf (s/2) p n).length
 | 0,_=>rfl
 | n+1,p=>by
  rw [bf,bf,Nat.testBit_succ];split
  ·simp [Bo s n (p+1)]
  ·exact Bo s n (p+1)
theorem WV:∀(n s:Nat),(bf s 0 n).length=ct n s
 | 0,_=>rfl
 | n+1,s=>by
  have h1:=Bo s n 0;have h2:=WV n (s/2);rw [bf,ct,Nat.testBit_zero];have:=Nat.mod_two_eq_zero_or_one s;rcases this with h | h
  ·rw [h];simp only [Nat.zero_ne_one,decide_false,if_false,Bool.false_eq_true];omega
  ·rw [h];simp only [decide_true,if_true,List.length_cons];omega
theorem abL (s:Nat):(bl s).length=ct 64 s:=WV 64 s
/- The document's word of places: from the last place down. -/
def wd (f:Nat→Bool):Nat→Nat
 | 0=>0
 | n+1=>2 * wd f n+(f (63 - n)).toNat
theorem MI (f:Nat→Bool):∀n,wd f n<2^n
 | 0=>by simp [wd]
 | n+1=>by
  have:=MI f n;have h2:(f (63 - n)).toNat≤1:=Bool.toNat_le _;rw [wd,Nat.pow_succ];omega
theorem MJ (f:Nat→Bool):∀(n i:Nat),n≤64→i<n→(wd f n).testBit i=f (64 - n+i)
 | 0,_,_,h=>by omega
 | n+1,0,hn,_=>by
  rw [wd,Nat.testBit_zero,show 64 - (n+1)+0=63 - n by omega];cases f (63 - n) <;> simp <;> omega
 | n+1,i+1,hn,h=>by
  rw [wd,Nat.testBit_succ,show (2 * wd f n+(f (63 - n)).toNat)/2=wd f n by have:(f (63 - n)).toNat≤1:=Bool.toNat_le _;omega,MJ f n i (by omega) (by omega)]
  congr 1
  omega
theorem q8 (h:s<18446744073709551616) (hi:64≤i):s.testBit i=false:=
 Nat.testBit_lt_two_pow (Nat.lt_of_lt_of_le h (by rw [show (18446744073709551616:Nat)=2^64 by decide];exact Nat.pow_le_pow_right (by omega) hi))
theorem jF (hs:s<18446744073709551616) (ht:t<18446744073709551616) (h:∀i,i<64→s.testBit i=t.testBit i):s=t:=by
 apply Nat.eq_of_testBit_eq
 intro i;by_cases hi:i<64
 ·exact h i hi
 ·rw [q8 hs (by omega),q8 ht (by omega)]
theorem Xq (f:Nat→Bool) (ht:t<18446744073709551616) (h:∀i,i<64→t.testBit i=f i):wd f 64=t:=
 jF (by have:=MI f 64;simpa using this) ht fun i hi=>by rw [MJ f 64 i (by omega) hi,h i hi];simp
/- With a place, without it, all others. -/
def put (s n:Nat):Nat:=s||| 2^n
def drp (s n:Nat):Nat:=s&&& (18446744073709551615 - 2^n)
def nt (s:Nat):Nat:=18446744073709551615 - s
theorem vO (h:n<64):2^n<18446744073709551616:=by
 rw [show (18446744073709551616:Nat)=2^64 by decide];exact Nat.pow_lt_pow_right (by omega) h
theorem pD (hs:s<18446744073709551616) (hn:n<64):put s n<18446744073709551616:=
 Nat.or_lt_two_pow (n:=64) hs (vO hn)
theorem QQ (hs:s<18446744073709551616):drp s n<18446744073709551616:=
 Nat.lt_of_le_of_lt Nat.and_le_left hs
theorem qj (s:Nat):nt s<18446744073709551616:=by unfold nt;omega
theorem mM (hs:s<18446744073709551616) (hi:i<64):(nt s).testBit i= !s.testBit i:=by
 unfold nt;have h:=Nat.testBit_two_pow_sub_succ (n:=64) (x:=s) hs i;rw [show 18446744073709551615 - s=2^64 - (s+1) by omega,h];simp [hi]
theorem iU (s n i:Nat):(put s n).testBit i=(decide (n=i)||s.testBit i):=by
 unfold put;rw [Nat.testBit_or,Nat.testBit_two_pow,Bool.or_comm]
theorem uT (hn:n<64) (hi:i<64):(drp s n).testBit i=(!decide (n=i)&&s.testBit i):=by
 unfold drp;rw [Nat.testBit_and,show 18446744073709551615 - 2^n=nt (2^n) from rfl,mM (vO hn) hi,Nat.testBit_two_pow,Bool.and_comm]
theorem Ol (s n:Nat):s||| 2^n=put s n:=rfl
/- The first of a list; -1: there is none. -/
def hd:List Nat→Int
 | []=> -1
 | k::_=>(k:Int)
theorem JE {s:Nat}:∀{n p k:Nat} {r:List Nat},bf s p n=k::r→p≤k∧k<p+n∧s.testBit k=true∧r=bf s (k+1) (p+n - (k+1))
 | 0,p,k,r,h=>by simp [bf] at h
 | n+1,p,k,r,h=>by
  rw [bf] at h;split at h
  ·rename_i hb
   cases h
   exact ⟨Nat.le_refl _,by omega,hb,by rw [show p+(n+1) - (p+1)=n by omega]⟩
  ·obtain ⟨h1,h2,h3,h4⟩:=JE h;exact ⟨by omega,by omega,h3,by rw [h4,show p+1+n - (k+1)=p+(n+1) - (k+1) by omega]⟩
/- From a place on. -/
def fr (s b:Nat):Nat:=s/2^b * 2^b
/- Those that are in and those that are out are 64. -/
theorem JI {s t:Nat}:∀(n p:Nat),(∀i,p≤i→i<p+n→t.testBit i= !s.testBit i)→(bf s p n).length+(bf t p n).length=n
 | 0,_,_=>rfl
 | n+1,p,h=>by
  have:=JI n (p+1) fun i h1 h2=>h i (by omega) (by omega)
  rw [bf,bf,h p (Nat.le_refl _) (by omega)];cases s.testBit p <;> simp <;> omega
theorem Vl (h:s<18446744073709551616):(bl s).length+(bl (nt s)).length=64:=JI 64 0 fun i _ h2=>mM h (by omega)
/- One bit more. -/
theorem Ru {s t k:Nat} (hs:s.testBit k=true) (ht:t.testBit k=false) (h:∀i,i≠k→s.testBit i=t.testBit i):∀(n p:Nat),p≤k→k<p+n→(bf s p n).length=(bf t p n).length+1
 | 0,_,_,_=>by omega
 | n+1,p,h1,h2=>by
  by_cases hp:p=k
  ·subst hp;rw [bf,bf,hs,ht,xo (t:=t) n (p+1) fun i h3 h4=>h i (by omega)];simp
  ·have:=Ru hs ht h n (p+1) (by omega) (by omega);rw [bf,bf,h p hp];cases t.testBit p <;> simp <;> omega
theorem QR (hs:s<18446744073709551616) (hn:n<64):(drp s n).testBit i=(!decide (n=i)&&s.testBit i):=by
 by_cases hi:i<64
 ·exact uT hn hi
 ·rw [q8 hs (by omega),q8 (QQ hs) (by omega),Bool.and_false]
theorem TC (hs:s<18446744073709551616) (hn:n<64):(bl (put s n)).length=(bl (drp s n)).length+1:=
 Ru (k:=n) (by rw [iU];simp) (by rw [uT hn hn];simp) (fun i hi=>by rw [iU,QR hs hn];simp [Ne.symm hi]) 64 0 (by omega) (by omega)
/- One after the other, the least that is out. -/
theorem Yi (hs:s<18446744073709551616) (h0:nt s≠0):nt (put s (tz (nt s)))=nt s&&& (nt s - 1):=by
 obtain ⟨m,hm,hk⟩:=uv h0 (qj s);obtain ⟨k,hkk⟩:∃k,tz (nt s)=k:=⟨_,rfl⟩;rw [hkk] at hm hk ⊢;have hp:put s k<18446744073709551616:=pD hs hk;apply jF (qj _) (Nat.lt_of_le_of_lt Nat.and_le_left (qj s))
 intro i hi;rw [mM hp hi,iU,Bool.not_or,←mM hs hi,hm,D_,j4,Nat.mul_comm (2^(k+1)) m,Nat.testBit_mul_two_pow];by_cases h1:i<k
 ·have e1:decide (k≤i)=false:=by simp;omega
  have e2:decide (k+1≤i)=false:=by simp;omega
  rw [e1,e2];simp
 ·by_cases h2:i=k
  ·subst h2;have e2:decide (i+1≤i)=false:=by simp
   rw [e2];simp
  ·have e1:decide (k≤i)=true:=by simp;omega
   have e2:decide (k+1≤i)=true:=by simp;omega
   have e3:decide (k=i)=false:=by simp;omega
   rw [e1,e2,e3,Bool.true_and,Bool.true_and,Bool.not_false,Bool.true_and,show i - k=(i - (k+1))+1 by omega,Nat.testBit_succ]
   congr 1
   omega
def pf (s:Nat) (l:List Nat):Nat:=l.foldl put s
theorem Ak (s:Nat) (l:List Nat) (k:Nat):pf s (l++[k])=put (pf s l) k:=by simp [pf]
theorem WU:∀(n:Nat) {s:Nat},s<18446744073709551616→bl (nt (pf s ((bl (nt s)).take n)))=(bl (nt s)).drop n
 | 0,s,hs=>rfl
 | n+1,s,hs=>by
  by_cases h0:nt s=0
  ·rw [h0,Bh];simp [pf,h0,Bh]
  ·have hk:tz (nt s)<64:=(uv h0 (qj s)).elim fun m h=>h.2
   have h1:=JB h0 (qj s);rw [←Yi hs h0] at h1;have h2:=WU n (pD hs hk);rw [h1,List.take_succ_cons,List.drop_succ_cons];exact h2
theorem Ay:i∈bl s↔i<64∧s.testBit i=true:=by
 unfold bl;rw [Az];constructor
 ·rintro ⟨_,h1,h2⟩;exact ⟨by omega,h2⟩
 ·rintro ⟨h1,h2⟩;exact ⟨by omega,by omega,h2⟩
open Go.RowKit
set_option linter.unusedSimpArgs false
variable {k s:Nat} {n:Int}
theorem aj {k:IntKind} {a b:Int} (h:a=b):Ending.returned (.int k a)=.returned (.int k b):=by rw [h]
theorem ae {a b:Bool} (h:a=b):Ending.returned (.bool a)=.returned (.bool b):=by rw [h]
/- Is the number a slot? -/
def sl (n:Int):Bool:=decide (0≤n)&&decide (n<64)
theorem rP (h:sl n=true):∃k:Nat,n=(k:Int)∧k<64:=by
 simp only [sl,Bool.and_eq_true,decide_eq_true_eq] at h;exact ⟨n.toNat,by omega,by omega⟩
theorem aaC (h:k<64):sl (k:Int)=true:=by simp [sl];omega
theorem Nd (h:sl n=false):n<0∨64≤n:=by
 simp only [sl,Bool.and_eq_false_iff,decide_eq_false_iff_not] at h;omega
theorem F2 (n:Int) (w:World):Calls prog 199 #[.int .i64 n] w fun e w'=>e=.returned (.bool (sl n))∧w'=w:=by
 by_cases h0:0≤n
 ·by_cases h1:n<64
  ·go_enter func199,ntmps199;go_wp2
   go_ret;exact ⟨ae (by simp [sl,h0,h1]),rfl⟩
  ·go_enter func199,ntmps199;go_wp2
   go_ret;exact ⟨ae (by simp [sl,h0,h1]),rfl⟩
 ·go_enter func199,ntmps199;go_wp2
  go_ret;exact ⟨ae (by simp [sl];omega),rfl⟩
theorem jY (z:Int) (h0:0≤z) (h1:z<18446744073709551616):IntKind.u64.wrap z=z:=by rw [IntKind.wrap_u64];omega
theorem bC (z:Int) (h0: -9223372036854775808≤z) (h1:z<9223372036854775808):IntKind.i64.wrap z=z:=by
 simp only [IntKind.wrap,IntKind.bits,IntKind.signed];simp;omega
theorem N4 (k:Nat):(2:Int)^k=((2^k:Nat):Int):=by simp
theorem zy (k:Nat) (hk:k<64) (w:World):Calls prog 200 #[.int .i64 (k:Int)] w fun e w'=>e=.returned (.int .u64 ((2^k:Nat):Int))∧w'=w:=by
 have hk2:((k:Int)<64)=True:=by simp;omega
 go_enter func200,ntmps200;go_wp2
 go_ret;refine ⟨aj ?_,rfl⟩;have h2:=vO hk;have h3:min k 64=k:=by omega
 simp only [IntKind.wrap_u64,Int.toNat_natCast,h3,N4];generalize 2^k=p at *;omega
/- The document's answers: Put, Drop (the word, the error). -/
def KO (s:Nat) (n:Int):Value:=if sl n then .tuple #[.int .u64 ((put s n.toNat:Nat):Int),.int .i64 0] else .tuple #[.int .u64 0,.int .i64 1]
def hs (s:Nat) (n:Int):Bool:=sl n&&s.testBit n.toNat
theorem Ah (h:k<64):KO s (k:Int)=.tuple #[.int .u64 ((put s k:Nat):Int),.int .i64 0]:=by unfold KO;rw [aaC h,if_pos rfl,Int.toNat_natCast]
theorem H9 (h:sl n=false):KO s n=.tuple #[.int .u64 0,.int .i64 1]:=by unfold KO;rw [h];rfl
theorem uB (s:Nat) (hs:s<18446744073709551616) (n:Int) (w:World):Calls prog 143 #[.int .u64 (s:Int),.int .i64 n] w fun e w'=>e=.returned (KO s n)∧w'=w:=by
 have hi:=F2 n
 cases h:sl n with
 | false=>
  rw [h] at hi;rw [H9 h];go_enter func143,ntmps143;go_wp2_with (go_at_call 199;refine (hi _).mono ?_;rintro e w' ⟨rfl,rfl⟩)
  go_ret2
  exact ⟨rfl,rfl⟩
 | true=>
  obtain ⟨k,rfl,hk⟩:=rP h;rw [h] at hi;have ha:=zy k hk;have h2:=vO hk;have ho:=u64_or_nat s (2^k) hs h2;rw [Ol] at ho;rw [Ah hk];generalize 2^k=p at *;go_enter func143,ntmps143;go_wp2_with (first | (go_at_call 199;refine (hi _).mono ?_;rintro e w' ⟨rfl,rfl⟩) | (go_at_call 200;refine (ha _).mono ?_;rintro e w' ⟨rfl,rfl⟩))
  go_ret2
  exact ⟨rfl,rfl⟩
open Go.RowKit Go.Maps Go.Shelf
attribute [local go_sem] Oper.semAt_some
set_option linter.unusedVariables false
set_option linter.unusedSimpArgs false
/- The library's table stands. -/
variable {W W':World}
def SJ:Nat:=Tryz.lays7x29_ren.g 1
def Tb (w:World):Prop:=SJ<w.heap.size∧TabAt SJ Lib.deBruijn64tab w
theorem Tb.below {n:Nat} (h:Tb W) (hb:Below n W W') (hn:SJ<n):Tb W':=
 ⟨Nat.lt_of_lt_of_le h.1 hb.size,fun j hj=>(hb.cell (p:=⟨SJ,j,none⟩) hn).trans (h.2 j hj)⟩
theorem Tb.later (h:Tb W) (hb:Below W.heap.size W W'):Tb W':=h.below hb h.1
theorem Xy (r:Nat) (hr:r<18446744073709551616) (w:World) (h:Tb w):Calls prog 259 #[.int .u64 (r:Int)] w fun e w'=>e=.returned (.int .i64 ((tz r:Nat):Int))∧w'=w:=
 Any7.bits_TrailingZeros64 Tryz.lays7x29 r hr w (fun _=>h.2)
set_option maxRecDepth 100000 in
theorem Kk (n:Nat) (hn:1≤n) (lo Bs n0:Nat) (s:Nat) (hs:s<18446744073709551616) (J Jx:List Nat→World→Prop) (W:World) (gZ:n0≤W.heap.size) (hG:SJ<n0) (hT:Tb W) (hJ:AbidesFrom W.heap.size J)
  (hY:∀pre x W1,J pre W1→pre.length<64→x<64→YieldAt Fence.wide (n - 1) prog lo #[.int .i64 ((x:Nat):Int)] W1 fun e W'=>
   (e=.returned (.bool true)∧J (pre++[x]) W'∧Below n0 W1 W')∨(e=.returned (.bool false)∧Jx (pre++[x]) W'))
  (WE:W.cell? ⟨Bs,0,none⟩=some (.int .u64 (s:Int))) (h0:J [] W):
  CallsIn Fence.wide n prog 260 #[.func (.yield lo) #[] #[],.pointer (some ⟨Bs,0,none⟩)] W fun e W'=>(∃v,e=.returned v)∧
   ((∃ys,ys=bl s∧J ys W')∨(∃pre,pre<+:bl s∧Jx pre W')):=by
 refine callsIn_of_wp func260 rfl trivial ?_ rfl;simp only [ntmps260,List.size_toArray,List.length_cons,List.length_nil,Nat.reduceAdd,Nat.reduceSub,Array.replicate_succ,Array.replicate_zero,List.push_toArray,List.append_toArray,List.nil_append,List.cons_append]
 gi_wp2
 gi_loopw [3] (fun x wr=>∃(r:Nat) (pre:List Nat),r<18446744073709551616∧pre++bl r=bl s∧x=.int .u64 (r:Int)∧J pre wr∧Below n0 W wr) (fun x _=>(intOf x).toNat)
 case atStart=>exact ⟨s,[],hs,rfl,rfl,h0,Below.refl _ _⟩
 case round=>
  obtain ⟨r,pre,hr,hp,rfl,hJp,dZ⟩:=hrel;have HP:Hid (pre++bl r=bl s):=hp;have HJP:Hid (J pre wr):=hJp;have fE:Hid (Below n0 W wr):=dZ;have HT:Hid (Tb wr):=hT.below dZ hG;clear hp hJp dZ;by_cases Sj:r=0
  ·subst Sj
   gi_wp2_with fail
   go_end0
   have e:=HP.out;rw [Bh,List.append_nil] at e;exact ⟨⟨_,rfl⟩,.inl ⟨pre,e,HJP.out⟩⟩
  ·have j0:¬((r:Int)=0):=by omega
   have j1:((r:Int)==0)=false:=by simp;omega
   have hst:=JB Sj hr;have hlt:=ZZ Sj;have hz:=Xy r hr wr HT.out;have m1:IntKind.u64.wrap ((r:Int) - 1)=((r - 1:Nat):Int):=by rw [jY _ (by omega) (by omega)];omega
   have m2:=u64_and_nat r (r - 1) hr (by omega);obtain ⟨q,hq⟩:∃q,r&&& (r - 1)=q:=⟨_,rfl⟩;obtain ⟨k,hk⟩:∃k,tz r=k:=⟨_,rfl⟩;obtain ⟨r1,hr1⟩:∃r1,r - 1=r1:=⟨_,rfl⟩;rw [hq] at hst hlt m2;have abe:k<64:=by obtain ⟨_,_,Sy⟩:=uv Sj hr;rw [hk] at Sy;exact Sy
   rw [hk] at hst hz;rw [hr1] at m1 m2
   have he:(pre++[k])++bl q=bl s:=by
    have:=HP.out;rw [hst] at this
    simpa using this
   have HE:Hid ((pre++[k])++bl q=bl s):=he;clear he
   have hlen:pre.length<64:=by
    have h1:=Bi s;rw [←HE.out] at h1;simp at h1;omega
   obtain ⟨fn,tmps,assign,body,hy,hR⟩:=hY pre k wr HJP.out hlen abe;have rB:Hid (q<r):=hlt;clear hst hq hk hr1 hlt hlen abe
   gi_wp2_with fail
   refine ⟨trivial,(callsIn_wide.2 hz).mono ?_⟩;rintro e w3 ⟨rfl,rfl⟩
   gi_wp2_with fail
   refine hR.mono ?_;rintro e W4 (⟨rfl,hJ4,hk4⟩ | ⟨rfl,P_⟩)
   ·gi_wp2_with fail
    go_roundw
    case rel=>exact ⟨q,_,by have:=rB.out;omega,HE.out,rfl,hJ4,fE.out.trans hk4⟩
    case measure=>have:=rB.out;simp [intOf];omega
   ·gi_wp2_with fail
    refine bodyPost_ret (results_none rfl _ _ _) rfl ?_;exact ⟨⟨_,rfl⟩,.inr ⟨_,⟨_,HE.out⟩,P_⟩⟩
theorem Nb (n:Nat) (s:Nat) (w:World):
  CallsIn Fence.wide n prog 249 #[.int .u64 (s:Int)] w fun e w'=>e=.returned (.func (.func 260) #[] #[.pointer (some ⟨w.heap.size,0,none⟩)])∧w'=w.alloc (.cells #[.int .u64 (s:Int)] 108):=by
 refine callsIn_of_wp func249 rfl trivial ?_ rfl;simp only [ntmps249,List.size_toArray,List.length_cons,List.length_nil,Nat.reduceAdd,Nat.reduceSub,Array.replicate_succ,Array.replicate_zero,List.push_toArray,List.append_toArray,List.nil_append,List.cons_append]
 gi_wp2
 go_ret;exact ⟨rfl,rfl⟩
/- The same, where a round wants to know that its number is a slot. -/
def vals (l:List (Fin 64)):List Nat:=l.map Fin.val
theorem gH (l:List (Fin 64)) (k:Fin 64):vals (l++[k])=vals l++[k.1]:=by simp [vals]
@[simp] theorem VH (l:List (Fin 64)):(vals l).length=l.length:=by simp [vals]
theorem zW (n:Nat) (hn:1≤n) (Bs n0:Nat) (s:Nat) (hs:s<18446744073709551616) (w:World) (WE:Bs<w.heap.size) (gZ:n0≤w.heap.size) (hG:SJ<n0) (hT:Tb w)
  (hc:w.cell? ⟨Bs,0,none⟩=some (.int .u64 (s:Int))):
  SeqStopsK Fence.wide n prog 260 #[.pointer (some ⟨Bs,0,none⟩)] (fun x:Fin 64=>#[Value.int .i64 ((x.1:Nat):Int)]) (Below n0) (fun ys=>vals ys=bl s) (fun pre=>vals pre<+:bl s) 64 w:=fun lo J Jx W hW hJ _ hY h0=>by
 refine (Kk n hn lo Bs n0 s hs (fun pre W=>∃p,vals p=pre∧J p W) (fun pre W=>∃p,vals p=pre∧Jx p W) W (Nat.le_trans gZ hW.size) hG (hT.later hW)
  (fun pre A B row ⟨p,hp,hj⟩ hg hr=>⟨p,hp,hJ p A B row hj hg hr⟩) ?_ ((hW.cell (p:=⟨Bs,0,none⟩) WE).trans hc) ⟨[],rfl,h0⟩).mono ?_
 ·rintro pre x W1 ⟨p,rfl,hj⟩ hlen hx;obtain ⟨fn,tmps,assign,body,hy,hR⟩:=hY p ⟨x,hx⟩ W1 hj (by simpa using hlen);refine ⟨fn,tmps,assign,body,hy,hR.mono ?_⟩;rintro e W' (⟨he,h1,h2⟩ | ⟨he,h1⟩)
  ·exact .inl ⟨he,⟨_,gH _ _,h1⟩,h2⟩
  ·exact .inr ⟨he,⟨_,gH _ _,h1⟩⟩
 ·rintro e W' ⟨he,(⟨ys,rfl,p,hp,hj⟩ | ⟨pre,jB,p,hp,hj⟩)⟩
  ·exact ⟨he,.inl ⟨p,hp,hj⟩⟩
  ·subst hp;exact ⟨he,.inr ⟨p,jB,hj⟩⟩
attribute [local go_sem] Oper.semAt_some
set_option linter.unusedVariables false
set_option linter.unusedSimpArgs false
theorem Bp {n0:Nat} {w:World} (hn:n0≤w.heap.size):∀(W:World) (l:Nat) (o o':Obj),w.heap.size≤l→W.heap[l]? =some o→o.isCells=false→o.isWalk=false→Below n0 W (W.putObj l o'):=belowK_b hn
theorem CG {β:Type} {B:Nat} (p:β→Prop):OwnFrom B (fun (s:β) (_:World)=>p s):=fun s W W' row hs _ _=>hs
theorem SN {s:Nat} (hs:s<18446744073709551616):18446744073709551615^^^s=nt s:=by
 have Sy:(18446744073709551615:Nat)^^^s<18446744073709551616:=Nat.xor_lt_two_pow (n:=64) (by decide) hs;apply jF Sy (qj s)
 intro i hi;rw [mM hs hi,Nat.testBit_xor,show (18446744073709551615:Nat)=2^64 - 1 by decide,Nat.testBit_two_pow_sub_one];simp [hi]
theorem uG (s:Nat) (h:s<18446744073709551616):bits BinOp.xor IntKind.u64 IntKind.u64.max (s:Int)=((nt s:Nat):Int):=by
 rw [show IntKind.u64.max=((18446744073709551615:Nat):Int) by decide,u64_xor_nat _ _ (by decide) h,SN h]
attribute [local go_sem] Oper.semAt_some
set_option linter.unusedVariables false
set_option linter.unusedSimpArgs false
theorem iW:(prog.info? 3).map (fun i=>(i.zero,i.size,i.bytes))=some (some (.int .i64 0),1,8):=by kernel_rfl
/- Places as a slice's cells. -/
def nI (l:List Nat):List Value:=l.map fun k=>.int .i64 ((k:Nat):Int)
@[simp] theorem aal (l:List Nat):(nI l).length=l.length:=by simp [nI]
theorem Iq (l:List Nat) (k:Nat):nI (l++[k])=nI l++[.int .i64 (k:Int)]:=by simp [nI]
/- A slice of numbers that is new. -/
def Z_ (w w':World) (v:Value) (l:List Nat):Prop:=w'.ownsRow w.heap.size 3 1 v l.length (nI l)
/- The 64 places as cells. -/
variable {f:Nat→Bool} {g n:Nat} {w:World}
def pE (f:Nat→Bool):Array Value:=Array.ofFn (n:=64) fun i=>.bool (f i.1)
@[simp] theorem qf (f:Nat→Bool):(pE f).size=64:=by simp [pE]
theorem uC (f:Nat→Bool) (i:Nat) (h:i<64):(pE f)[i]? =some (.bool (f i)):=by
 rw [Array.getElem?_eq_getElem (by simpa using h)];simp [pE]
theorem ji {g:Nat→Bool} (h:∀i,i<64→f i=g i):pE f=pE g:=by
 unfold pE
 congr 1
 funext i
 rw [h i.1 i.2]
theorem Ia (f:Nat→Bool) (k:Nat) (b:Bool) (hk:k<64):(pE f).setIfInBounds k (.bool b)=pE (fun i=>if i=k then b else f i):=by
 apply Array.ext
 ·simp
 ·intro i h1 h2;simp at h1;rw [Array.getElem_setIfInBounds (by simpa using h1)];simp only [pE,Array.getElem_ofFn];by_cases h:k=i
  ·subst h;simp
  ·rw [if_neg h,if_neg (fun e=>h e.symm)]
theorem Ib (f:Nat→Bool):(pE f).all (·.oneCell')=true:=by
 rw [Array.all_eq_true];intro i h;simp [pE,Value.oneCell']
theorem wH:(prog.info? 238).map (·.size)=some 64:=by kernel_rfl
/- The places, as many as have been seen. -/
def seen (s k:Nat):Array Value:=pE fun i=>decide (i<k)&&s.testBit i
theorem Kn (s:Nat):seen s 0=pE fun _=>false:=ji fun i _=>by simp
theorem Nj (s:Nat):seen s 64=pE fun i=>s.testBit i:=ji fun i hi=>by simp [hi]
theorem Nh (s k:Nat) (hk:k<64):(seen s k).setIfInBounds k (.bool (s.testBit k))=seen s (k+1):=by
 unfold seen;rw [Ia _ _ _ hk];apply ji
 intro i hi;by_cases h:i=k
 ·subst h;simp
 ·rw [if_neg h,show decide (i<k)=decide (i<k+1) by simp;omega]
theorem Ni (s k:Nat) (hk:k<64):(seen s k)[k]? =some (.bool false):=by
 unfold seen;rw [uC _ _ hk];simp
@[simp] theorem rQ (s k:Nat):(seen s k).size=64:=by simp [seen]
theorem ai {cs:Array Value} {t:TypeId} {fr:Nat×Nat} (h:w.heap[g]? =some (.cells cs t fr)) (cs':Array Value):(w.setRow g cs').heap[g]? =some (.cells cs' t fr):=by
 simp only [World.setRow,Array.getElem?_modify];rw [if_pos trivial,h];rfl
theorem ag {W:World} (hg:n≤g) (h:Below n w W) (cs:Array Value):Below n w (W.setRow g cs):=by
 refine h.trans ⟨rfl,rfl,rfl,by simp,fun k hk=>?_⟩;simp only [World.setRow,Array.getElem?_modify];rw [if_neg (by omega)]
set_option maxRecDepth 100000 in
theorem FA (s:Nat) (hs:s<18446744073709551616) (w:World):
  Calls prog 181 #[.int .u64 (s:Int)] w fun e w'=>e=.returned (.agg (pE fun i=>s.testBit i))∧Below w.heap.size w w':=by
 go_enter func181,ntmps181;go_wp2_with fail
 rw [show (#[Value.bool false,Value.bool false,Value.bool false,Value.bool false,Value.bool false,Value.bool false,Value.bool false,Value.bool false,Value.bool false,Value.bool false,Value.bool false,Value.bool false,Value.bool false,Value.bool false,Value.bool false,Value.bool false,Value.bool false,Value.bool false,Value.bool false,Value.bool false,Value.bool false,Value.bool false,Value.bool false,Value.bool false,Value.bool false,Value.bool false,Value.bool false,Value.bool false,Value.bool false,Value.bool false,Value.bool false,Value.bool false,Value.bool false,Value.bool false,Value.bool false,Value.bool false,Value.bool false,Value.bool false,Value.bool false,Value.bool false,Value.bool false,Value.bool false,Value.bool false,Value.bool false,Value.bool false,Value.bool false,Value.bool false,Value.bool false,Value.bool false,Value.bool false,Value.bool false,Value.bool false,Value.bool false,Value.bool false,Value.bool false,Value.bool false,Value.bool false,Value.bool false,Value.bool false,Value.bool false,Value.bool false,Value.bool false,Value.bool false,Value.bool false]:Array Value)=pE (fun _=>false) from rfl];obtain ⟨w1,zg⟩:∃w1,w.alloc (.cells (pE fun _=>false) 238)=w1:=⟨_,rfl⟩;have hR1:w1.heap[w.heap.size]? =some (.cells (pE fun _=>false) 238 (0,0)):=by rw [←zg];exact heap_alloc_last w _
 have cA:Below w.heap.size w w1:=by rw [←zg];exact (Below.refl _ w).alloc (Nat.le_refl _) _
 have hs1:w.heap.size+1=w1.heap.size:=by rw [←zg,World.size_alloc]
 rw [zg,←Kn s,hs1];clear zg;go_loopw [0,4] (fun x i wx=>∃k:Nat,k≤64∧i=.int .i64 (k:Int)∧x=.int .u64 ((s/2^k:Nat):Int)∧wx=w1.alloc (.cells (seen s k) 238)) (fun _ i _=>64 - (intOf i).toNat)
 case atStart=>exact ⟨0,by omega,rfl,by simp,rfl⟩
 case round=>
  obtain ⟨k,hk,rfl,rfl,rfl⟩:=hrel;by_cases dA:k<64
  ·have k8:(k:Int)<64:=by omega
   have ye:s.testBit k=decide (s/2^k%2=1):=Nat.testBit_eq_decide_div_mod_eq;have wI:s/2^(k+1)=s/2^k/2:=by rw [Nat.pow_succ,Nat.div_div_eq_div_mul]
   have hlt:s/2^k<18446744073709551616:=Nat.lt_of_le_of_lt (Nat.div_le_self _ _) hs;obtain ⟨q,hq⟩:∃q,s/2^k=q:=⟨_,rfl⟩;rw [hq] at ye wI hlt ⊢;have AP:=Ni s k dA;have Ps:=Nh s k dA;have HQ:Hid (s/2^(k+1)=q/2):=wI;have HS:Hid (_=_):=Ps;have HB:Hid (_=_):=ye;clear hq wI Ps ye;go_wp2_with fail
   go_roundw
   case rel=>
    refine ⟨k+1,by omega,by go_num,by rw [HQ.out];congr 1,?_⟩
    have hb:((q:Int)%2==1)=s.testBit k:=by
     rw [HB.out,Bool.eq_iff_iff];simp;omega
    rw [hb,HS.out]
   case measure=>simp [intOf];omega
  ·obtain rfl:k=64:=by omega
   obtain ⟨w2,hw2⟩:∃w2,w1.alloc (.cells (seen s 64) 238)=w2:=⟨_,rfl⟩;have P7:w2.heap[w1.heap.size]? =some (.cells (seen s 64) 238 (0,0)):=by rw [←hw2];exact heap_alloc_last w1 _
   have xO:Below w1.heap.size w1 w2:=by rw [←hw2];exact (Below.refl _ w1).alloc (Nat.le_refl _) _
   have EF:w2.heap[w.heap.size]? =some (.cells (pE fun _=>false) 238 (0,0)):=(xO.block _ (by omega)).trans hR1;rw [hw2];clear hw2;go_upto_region 7 with (fail)
   refine wp_region_lit ?_;refine wpList_load_row rfl 238 _ rfl w1.heap.size rfl 238 (seen s 64) (0,0) _ P7 underlying238 rfl (by rw [rQ];exact wH) ?_;refine wpList_store_row rfl 238 _ _ rfl w.heap.size (seen s 64) rfl rfl 238 _ EF (by rw [rQ];exact wH) (by simp) (by unfold seen;exact Ib _) ?_;have hR3:=ai EF (seen s 64);have uk:=ag (n:=w.heap.size) (Nat.le_refl _) (cA.trans (xO.mono (by omega))) (seen s 64);generalize w2.setRow w.heap.size (seen s 64)=w3 at *;go_wp2_with fail
   refine bodyPost_ret (results_cell_row rfl _ _ w.heap.size 238 (seen s 64) (0,0) _ rfl hR3 underlying238 rfl (by rw [rQ];exact wH)) rfl ?_;exact ⟨by rw [Nj],uk⟩
/- The word of the places. -/
theorem SU:wd f (n+1)=2 * wd f n+(f (63 - n)).toNat:=rfl
set_option maxRecDepth 100000 in
theorem MF (f:Nat→Bool) (w:World):
  Calls prog 126 #[.agg (pE f)] w fun e w'=>e=.returned (.int .u64 ((wd f 64:Nat):Int))∧Below w.heap.size w w':=by
 have hsz:=qf f;have AP:=uC f;obtain ⟨c,hc⟩:∃c,pE f=c:=⟨_,rfl⟩;rw [hc] at hsz AP ⊢;clear hc;have hB:Below w.heap.size w (w.alloc (.cells c 238)):=(Below.refl _ w).alloc (Nat.le_refl _) _;go_enter func126,ntmps126;go_wp2_with fail
 go_loop [3,4] (fun x i=>∃k:Nat,k≤64∧i=.int .i64 (63 - (k:Int))∧x=.int .u64 ((wd f k:Nat):Int)) (fun _ i=>(intOf i+1).toNat)
 case atStart=>exact ⟨0,by omega,rfl,rfl⟩
 case round=>
  obtain ⟨k,hk,rfl,rfl⟩:=hrel;by_cases dA:k<64
  ·obtain ⟨j,hj⟩:∃j:Nat,63 - k=j:=⟨_,rfl⟩;have hji:63 - (k:Int)=(j:Int):=by omega
   have lT:(j:Int)<64:=by omega
   have hjn:¬((j:Int)<0):=by omega
   have hcell:=AP j (by omega);have hlt:=MI f k;have hpw:2^k≤2^63:=Nat.pow_le_pow_right (by omega) (by omega);have hst:wd f (k+1)=2 * wd f k+(f j).toNat:=by rw [SU,hj]
   have h63:wd f k<9223372036854775808:=Nat.lt_of_lt_of_le hlt hpw;clear hlt hpw AP;obtain ⟨q,hq⟩:∃q,wd f k=q:=⟨_,rfl⟩;rw [hq] at hst h63 ⊢;rw [hji];have HST:Hid (_=_):=hst;have HJ:Hid (63 - (k:Int)=(j:Int)):=hji;clear hq hst hji hj
   cases hf:f j with
   | false=>
    rw [hf] at hcell;go_wp2_with fail
    go_round
    case rel=>exact ⟨k+1,by omega,by have:=HJ.out;go_num,by rw [HST.out,hf];go_num⟩
    case measure=>simp [intOf]
   | true=>
    rw [hf] at hcell;go_wp2_with fail
    go_round
    case rel=>exact ⟨k+1,by omega,by have:=HJ.out;go_num,by rw [HST.out,hf];go_num⟩
    case measure=>simp [intOf]
  ·obtain rfl:k=64:=by omega
   go_wp2_with fail
   go_ret;exact ⟨rfl,hB⟩
end Go.Proofs.YtanaapfobpgibaaGreatDoor.Rs
