/- StMath, StA, StC, StD, StE, StG, StPop, StB, joined. -/
import Derived.Lib.TrailingZeros
import Derived.Laws.BitsAllLaws
import Derived.Test.YtoimkngkcliinaaGreatDoorChecked
import Derived.WalkKit
import Derived.ProofKit
import Derived.Below
import Derived.WalkSpells
import Derived.Laws.ShiftsVarLaws
import Derived.RangeFuncNested
import Derived.RangeFuncBound
import Derived.RangeFuncCalls
import Derived.RangeFuncLeaves
import Derived.RangeFuncBox
import Derived.Shelf.Abstract
import Derived.Shelf.RegionOpen
import Derived.Shelf.Spec.TrailingZeros
import Derived.OwnWalkIn
import Derived.TacticsInMore
import Derived.LoopNIn
import Derived.LoopIn
import Derived.Maps.AppendAt
import Derived.Test.YtoimkngkcliinaaGreatDoorShelf
import Derived.Deep.WholeRow
import Derived.Deep.LoopGhost
import Derived.Deep.DeepCutAuto
import Derived.Laws.ResultCell
import Derived.Laws.Bits128
namespace Go.Proofs.YtoimkngkcliinaaGreatDoor.Rs
set_option linter.unusedVariables false
set_option maxRecDepth 4000
/- The n places from p on whose bits are set. -/
def bf (s p:Nat):Nat→List Nat
 | 0=>[]
 | n+1=>if s.testBit p then p::bf s (p+1) n else bf s (p+1) n
/- The set's places. -/
def bl (s:Nat):List Nat:=bf s 0 64
theorem bf_congr {s t:Nat}:∀(n p:Nat),(∀i,p≤i→i<p+n→s.testBit i=t.testBit i)→bf s p n=bf t p n
 | 0,_,_=>rfl
 | n+1,p,h=>by
  rw [bf,bf,h p (Nat.le_refl _) (by omega),bf_congr n (p+1) fun i h1 h2=>h i (by omega) (by omega)]
theorem bf_none {s:Nat}:∀(n p:Nat),(∀i,p≤i→i<p+n→s.testBit i=false)→bf s p n=[]
 | 0,_,_=>rfl
 | n+1,p,h=>by
  rw [bf,h p (Nat.le_refl _) (by omega),bf_none n (p+1) fun i h1 h2=>h i (by omega) (by omega)];rfl
theorem bf_skip {s:Nat}:∀(d n p:Nat),d≤n→(∀i,p≤i→i<p+d→s.testBit i=false)→bf s p n=bf s (p+d) (n - d)
 | 0,n,p,_,_=>rfl
 | d+1,0,p,hd,_=>by omega
 | d+1,n+1,p,hd,h=>by
  rw [bf,h p (Nat.le_refl _) (by omega),show n+1 - (d+1)=n - d by omega,show p+(d+1)=p+1+d by omega,←bf_skip d n (p+1) (by omega) fun i h1 h2=>h i (by omega) (by omega)];rfl
theorem bf_len_le (s:Nat):∀(n p:Nat),(bf s p n).length≤n
 | 0,_=>Nat.le_refl _
 | n+1,p=>by
  have:=bf_len_le s n (p+1);rw [bf];split
  ·simp;omega
  ·omega
theorem mem_bf {s:Nat}:∀{n p i:Nat},i∈bf s p n↔p≤i∧i<p+n∧s.testBit i=true
 | 0,p,i=>by simp [bf];omega
 | n+1,p,i=>by
  rw [bf];split
  ·rename_i h
   rw [List.mem_cons,mem_bf];constructor
   ·rintro (rfl | ⟨h1,h2,h3⟩)
    ·exact ⟨by omega,by omega,h⟩
    ·exact ⟨by omega,by omega,h3⟩
   ·rintro ⟨h1,h2,h3⟩;by_cases hi:i=p
    ·exact .inl hi
    ·exact .inr ⟨by omega,by omega,h3⟩
  ·rename_i h
   rw [mem_bf];constructor
   ·rintro ⟨h1,h2,h3⟩;exact ⟨by omega,by omega,h3⟩
   ·rintro ⟨h1,h2,h3⟩;have hi:i≠p:=by rintro rfl;exact h h3
    exact ⟨by omega,by omega,h3⟩
theorem bl_zero:bl 0=[]:=bf_none _ _ fun i _ _=>by simp
theorem bl_len (s:Nat):(bl s).length≤64:=bf_len_le _ _ _
/- The lowest bit: its place, and the number without it. -/
def tz (s:Nat):Nat:=Lib.ctz 64 s
theorem tz_spec {s:Nat} (h0:s≠0) (h:s<18446744073709551616):∃m,s=2^tz s * (2 * m+1)∧tz s<64:=by
 unfold tz Lib.ctz;rw [if_neg h0];exact Lib.ctzFrom_spec 64 s (by omega) (by simpa using h)
theorem testBit_odd (k m i:Nat):(2^k * (2 * m+1)).testBit i=(decide (k≤i)&&(2 * m+1).testBit (i - k)):=by
 rw [Nat.mul_comm,Nat.testBit_mul_two_pow]
theorem low_pred (k m:Nat):2^k * (2 * m+1) - 1=2^(k+1) * m+(2^k - 1):=by
 have h:0<2^k:=Nat.two_pow_pos k;rw [Nat.mul_add,Nat.pow_succ,Nat.mul_one,Nat.mul_assoc];omega
theorem and_pred (k m:Nat):(2^k * (2 * m+1))&&& (2^k * (2 * m+1) - 1)=2^(k+1) * m:=by
 have hk:0<2^k:=Nat.two_pow_pos k;rw [low_pred];have hs:2^k * (2 * m+1)=2^(k+1) * m+2^k:=by rw [Nat.mul_add,Nat.pow_succ,Nat.mul_one,Nat.mul_assoc]
 rw [hs];apply Nat.eq_of_testBit_eq
 intro i;have hk1:2^k<2^(k+1):=by rw [Nat.pow_succ];omega
 rw [Nat.testBit_and,Nat.testBit_two_pow_mul_add _ hk1,Nat.testBit_two_pow_mul_add _ (by omega:2^k - 1<2^(k+1)),Nat.mul_comm,Nat.testBit_mul_two_pow];by_cases hi:i<k+1
 ·rw [if_pos hi,if_pos hi,Nat.testBit_two_pow,Nat.testBit_two_pow_sub_one];have h1:(decide (k=i)&&decide (i<k))=false:=by simp;omega
  have h2:decide (k+1≤i)=false:=by simp;omega
  rw [h1,h2];rfl
 ·rw [if_neg hi,if_neg hi,Bool.and_self];have h2:decide (k+1≤i)=true:=by simp;omega
  rw [h2,Bool.true_and]
theorem bl_step {s:Nat} (h0:s≠0) (h:s<18446744073709551616):bl s=tz s::bl (s&&& (s - 1)):=by
 obtain ⟨m,hs,hk⟩:=tz_spec h0 h;obtain ⟨k,hkk⟩:∃k,tz s=k:=⟨_,rfl⟩;rw [hkk] at hs hk ⊢;subst hs;rw [and_pred]
 have h1:bl (2^k * (2 * m+1))=k::bf (2^k * (2 * m+1)) (k+1) (63 - k):=by
  unfold bl;rw [bf_skip k 64 0 (by omega) (fun i _ h2=>by rw [testBit_odd];simp;omega),show 64 - k=(63 - k)+1 by omega,bf,if_pos (by rw [testBit_odd];simp),Nat.zero_add]
 have h2:bl (2^(k+1) * m)=bf (2^(k+1) * m) (k+1) (63 - k):=by
  unfold bl;rw [bf_skip (k+1) 64 0 (by omega) (fun i _ h2=>by rw [Nat.mul_comm,Nat.testBit_mul_two_pow];simp;omega),show 64 - (k+1)=63 - k by omega,Nat.zero_add]
 rw [h1,h2]
 congr 1
 apply bf_congr
 intro i h3 h4;rw [testBit_odd,Nat.mul_comm (2^(k+1)) m,Nat.testBit_mul_two_pow];have e1:decide (k≤i)=true:=by simp;omega
 have e2:decide (k+1≤i)=true:=by simp;omega
 rw [e1,e2,Bool.true_and,Bool.true_and,show i - k=(i - (k+1))+1 by omega,Nat.testBit_succ]
 congr 1
 omega
theorem and_lt {s:Nat} (h0:s≠0):s&&& (s - 1)<s:=by
 have:s&&& (s - 1)≤s - 1:=Nat.and_le_right;omega
/- How many bits are set: n of them, from the lowest up. -/
def ct:Nat→Nat→Nat
 | 0,_=>0
 | n+1,s=>s%2+ct n (s/2)
theorem bf_half (s:Nat):∀(n p:Nat),(bf s (p+1) n).length=(bf (s/2) p n).length
 | 0,_=>rfl
 | n+1,p=>by
  rw [bf,bf,Nat.testBit_succ];split
  ·simp [bf_half s n (p+1)]
  ·exact bf_half s n (p+1)
theorem bf_ct:∀(n s:Nat),(bf s 0 n).length=ct n s
 | 0,_=>rfl
 | n+1,s=>by
  have h1:=bf_half s n 0;have h2:=bf_ct n (s/2);rw [bf,ct,Nat.testBit_zero];have:=Nat.mod_two_eq_zero_or_one s;rcases this with h | h
  ·rw [h];simp only [Nat.zero_ne_one,decide_false,if_false,Bool.false_eq_true];omega
  ·rw [h];simp only [decide_true,if_true,List.length_cons];omega
theorem bl_ct (s:Nat):(bl s).length=ct 64 s:=bf_ct 64 s
theorem bit_high {s i:Nat} (h:s<18446744073709551616) (hi:64≤i):s.testBit i=false:=
 Nat.testBit_lt_two_pow (Nat.lt_of_lt_of_le h (by rw [show (18446744073709551616:Nat)=2^64 by decide];exact Nat.pow_le_pow_right (by omega) hi))
theorem eq_of_bits {s t:Nat} (hs:s<18446744073709551616) (ht:t<18446744073709551616) (h:∀i,i<64→s.testBit i=t.testBit i):s=t:=by
 apply Nat.eq_of_testBit_eq
 intro i;by_cases hi:i<64
 ·exact h i hi
 ·rw [bit_high hs (by omega),bit_high ht (by omega)]
/- With a place, without it, all others. -/
def put (s n:Nat):Nat:=s||| 2^n
def drp (s n:Nat):Nat:=s&&& (18446744073709551615 - 2^n)
def nt (s:Nat):Nat:=18446744073709551615 - s
theorem pow_lt {n:Nat} (h:n<64):2^n<18446744073709551616:=by
 rw [show (18446744073709551616:Nat)=2^64 by decide];exact Nat.pow_lt_pow_right (by omega) h
theorem put_lt {s n:Nat} (hs:s<18446744073709551616) (hn:n<64):put s n<18446744073709551616:=
 Nat.or_lt_two_pow (n:=64) hs (pow_lt hn)
theorem drp_lt {s n:Nat} (hs:s<18446744073709551616):drp s n<18446744073709551616:=
 Nat.lt_of_le_of_lt Nat.and_le_left hs
theorem nt_lt (s:Nat):nt s<18446744073709551616:=by unfold nt;omega
theorem nt_bit {s i:Nat} (hs:s<18446744073709551616) (hi:i<64):(nt s).testBit i= !s.testBit i:=by
 unfold nt;have h:=Nat.testBit_two_pow_sub_succ (n:=64) (x:=s) hs i;rw [show 18446744073709551615 - s=2^64 - (s+1) by omega,h];simp [hi]
theorem put_bit (s n i:Nat):(put s n).testBit i=(decide (n=i)||s.testBit i):=by
 unfold put;rw [Nat.testBit_or,Nat.testBit_two_pow,Bool.or_comm]
theorem drp_bit {s n i:Nat} (hn:n<64) (hi:i<64):(drp s n).testBit i=(!decide (n=i)&&s.testBit i):=by
 unfold drp;rw [Nat.testBit_and,show 18446744073709551615 - 2^n=nt (2^n) from rfl,nt_bit (pow_lt hn) hi,Nat.testBit_two_pow,Bool.and_comm]
theorem or_put (s n:Nat):s||| 2^n=put s n:=rfl
/- The first of a list; -1: there is none. -/
def hd:List Nat→Int
 | []=> -1
 | k::_=>(k:Int)
theorem bf_tail {s:Nat}:∀{n p k:Nat} {r:List Nat},bf s p n=k::r→p≤k∧k<p+n∧s.testBit k=true∧r=bf s (k+1) (p+n - (k+1))
 | 0,p,k,r,h=>by simp [bf] at h
 | n+1,p,k,r,h=>by
  rw [bf] at h;split at h
  ·rename_i hb
   cases h
   exact ⟨Nat.le_refl _,by omega,hb,by rw [show p+(n+1) - (p+1)=n by omega]⟩
  ·obtain ⟨h1,h2,h3,h4⟩:=bf_tail h;exact ⟨by omega,by omega,h3,by rw [h4,show p+1+n - (k+1)=p+(n+1) - (k+1) by omega]⟩
/- From a place on. -/
def fr (s b:Nat):Nat:=s/2^b * 2^b
/- Those that are in and those that are out are 64. -/
theorem bf_both {s t:Nat}:∀(n p:Nat),(∀i,p≤i→i<p+n→t.testBit i= !s.testBit i)→(bf s p n).length+(bf t p n).length=n
 | 0,_,_=>rfl
 | n+1,p,h=>by
  have:=bf_both n (p+1) fun i h1 h2=>h i (by omega) (by omega)
  rw [bf,bf,h p (Nat.le_refl _) (by omega)];cases s.testBit p <;> simp <;> omega
theorem bl_both {s:Nat} (h:s<18446744073709551616):(bl s).length+(bl (nt s)).length=64:=bf_both 64 0 fun i _ h2=>nt_bit h (by omega)
/- One bit more. -/
theorem bf_one {s t k:Nat} (hs:s.testBit k=true) (ht:t.testBit k=false) (h:∀i,i≠k→s.testBit i=t.testBit i):∀(n p:Nat),p≤k→k<p+n→(bf s p n).length=(bf t p n).length+1
 | 0,_,_,_=>by omega
 | n+1,p,h1,h2=>by
  by_cases hp:p=k
  ·subst hp;rw [bf,bf,hs,ht,bf_congr (t:=t) n (p+1) fun i h3 h4=>h i (by omega)];simp
  ·have:=bf_one hs ht h n (p+1) (by omega) (by omega);rw [bf,bf,h p hp];cases t.testBit p <;> simp <;> omega
theorem drp_bit' {s n i:Nat} (hs:s<18446744073709551616) (hn:n<64):(drp s n).testBit i=(!decide (n=i)&&s.testBit i):=by
 by_cases hi:i<64
 ·exact drp_bit hn hi
 ·rw [bit_high hs (by omega),bit_high (drp_lt hs) (by omega),Bool.and_false]
theorem put_drp {s n:Nat} (hs:s<18446744073709551616) (hn:n<64):(bl (put s n)).length=(bl (drp s n)).length+1:=
 bf_one (k:=n) (by rw [put_bit];simp) (by rw [drp_bit hn hn];simp) (fun i hi=>by rw [put_bit,drp_bit' hs hn];simp [Ne.symm hi]) 64 0 (by omega) (by omega)
/- One after the other, the least that is out. -/
theorem nt_put {s:Nat} (hs:s<18446744073709551616) (h0:nt s≠0):nt (put s (tz (nt s)))=nt s&&& (nt s - 1):=by
 obtain ⟨m,hm,hk⟩:=tz_spec h0 (nt_lt s);obtain ⟨k,hkk⟩:∃k,tz (nt s)=k:=⟨_,rfl⟩;rw [hkk] at hm hk ⊢;have hp:put s k<18446744073709551616:=put_lt hs hk;apply eq_of_bits (nt_lt _) (Nat.lt_of_le_of_lt Nat.and_le_left (nt_lt s))
 intro i hi;rw [nt_bit hp hi,put_bit,Bool.not_or,←nt_bit hs hi,hm,and_pred,testBit_odd,Nat.mul_comm (2^(k+1)) m,Nat.testBit_mul_two_pow];by_cases h1:i<k
 ·have e1:decide (k≤i)=false:=by simp;omega
  have e2:decide (k+1≤i)=false:=by simp;omega
  rw [e1,e2];simp
 ·by_cases h2:i=k
  ·subst h2;have e2:decide (i+1≤i)=false:=by simp
   rw [e2];simp
  ·have e1:decide (k≤i)=true:=by simp;omega
   have e2:decide (k+1≤i)=true:=by simp;omega
   have e3:decide (k=i)=false:=by simp;omega
   rw [e1,e2,e3,Bool.true_and,Bool.true_and,Bool.not_false,Bool.true_and,show i - k=(i - (k+1))+1 by omega,Nat.testBit_succ]
   congr 1
   omega
def pf (s:Nat) (l:List Nat):Nat:=l.foldl put s
theorem pf_snoc (s:Nat) (l:List Nat) (k:Nat):pf s (l++[k])=put (pf s l) k:=by simp [pf]
theorem bl_pf:∀(n:Nat) {s:Nat},s<18446744073709551616→bl (nt (pf s ((bl (nt s)).take n)))=(bl (nt s)).drop n
 | 0,s,hs=>rfl
 | n+1,s,hs=>by
  by_cases h0:nt s=0
  ·rw [h0,bl_zero];simp [pf,h0,bl_zero]
  ·have hk:tz (nt s)<64:=(tz_spec h0 (nt_lt s)).elim fun m h=>h.2
   have h1:=bl_step h0 (nt_lt s);rw [←nt_put hs h0] at h1;have h2:=bl_pf n (put_lt hs hk);rw [h1,List.take_succ_cons,List.drop_succ_cons];exact h2
theorem mem_bl {s i:Nat}:i∈bl s↔i<64∧s.testBit i=true:=by
 unfold bl;rw [mem_bf];constructor
 ·rintro ⟨_,h1,h2⟩;exact ⟨by omega,h2⟩
 ·rintro ⟨h1,h2⟩;exact ⟨by omega,by omega,h2⟩
open Go.RowKit
set_option linter.unusedSimpArgs false
theorem ret_int {k:IntKind} {a b:Int} (h:a=b):Ending.returned (.int k a)=.returned (.int k b):=by rw [h]
theorem ret_bool {a b:Bool} (h:a=b):Ending.returned (.bool a)=.returned (.bool b):=by rw [h]
/- Is the number a slot? -/
def sl (n:Int):Bool:=decide (0≤n)&&decide (n<64)
theorem sl_nat {n:Int} (h:sl n=true):∃k:Nat,n=(k:Int)∧k<64:=by
 simp only [sl,Bool.and_eq_true,decide_eq_true_eq] at h;exact ⟨n.toNat,by omega,by omega⟩
theorem sl_of {k:Nat} (h:k<64):sl (k:Int)=true:=by simp [sl];omega
theorem sl_not {n:Int} (h:sl n=false):n<0∨64≤n:=by
 simp only [sl,Bool.and_eq_false_iff,decide_eq_false_iff_not] at h;omega
set_option maxHeartbeats 400000 in
theorem isSlot_any (n:Int) (w:World):Calls Tryz.prog 307 #[.int .i64 n] w fun e w'=>e=.returned (.bool (sl n))∧w'=w:=by
 by_cases h0:0≤n
 ·by_cases h1:n<64
  ·go_enter Tryz.func307,Tryz.ntmps307;go_wp2
   go_ret;exact ⟨ret_bool (by simp [sl,h0,h1]),rfl⟩
  ·go_enter Tryz.func307,Tryz.ntmps307;go_wp2
   go_ret;exact ⟨ret_bool (by simp [sl,h0,h1]),rfl⟩
 ·go_enter Tryz.func307,Tryz.ntmps307;go_wp2
  go_ret;exact ⟨ret_bool (by simp [sl];omega),rfl⟩
theorem u64_fit (z:Int) (h0:0≤z) (h1:z<18446744073709551616):IntKind.u64.wrap z=z:=by rw [IntKind.wrap_u64];omega
theorem i64_fit (z:Int) (h0: -9223372036854775808≤z) (h1:z<9223372036854775808):IntKind.i64.wrap z=z:=by
 simp only [IntKind.wrap,IntKind.bits,IntKind.signed];simp;omega
theorem pow_cast (k:Nat):(2:Int)^k=((2^k:Nat):Int):=by simp
set_option maxHeartbeats 400000 in
theorem alone_any (k:Nat) (hk:k<64) (w:World):Calls Tryz.prog 308 #[.int .i64 (k:Int)] w fun e w'=>e=.returned (.int .u64 ((2^k:Nat):Int))∧w'=w:=by
 have hk2:((k:Int)<64)=True:=by simp;omega
 go_enter Tryz.func308,Tryz.ntmps308;go_wp2
 go_ret;refine ⟨ret_int ?_,rfl⟩;have h2:=pow_lt hk;have h3:min k 64=k:=by omega
 simp only [IntKind.wrap_u64,Int.toNat_natCast,h3,pow_cast];generalize 2^k=p at *;omega
/- The document's answers: Put, Drop (the word, the error). -/
def putR (s:Nat) (n:Int):Value:=if sl n then .tuple #[.int .u64 ((put s n.toNat:Nat):Int),.int .i64 0] else .tuple #[.int .u64 0,.int .i64 1]
def hs (s:Nat) (n:Int):Bool:=sl n&&s.testBit n.toNat
theorem putR_sl {s k:Nat} (h:k<64):putR s (k:Int)=.tuple #[.int .u64 ((put s k:Nat):Int),.int .i64 0]:=by unfold putR;rw [sl_of h,if_pos rfl,Int.toNat_natCast]
theorem putR_no {s:Nat} {n:Int} (h:sl n=false):putR s n=.tuple #[.int .u64 0,.int .i64 1]:=by unfold putR;rw [h];rfl
set_option maxHeartbeats 400000 in
theorem put_any (s:Nat) (hs:s<18446744073709551616) (n:Int) (w:World):Calls Tryz.prog 251 #[.int .u64 (s:Int),.int .i64 n] w fun e w'=>e=.returned (putR s n)∧w'=w:=by
 have hi:=isSlot_any n
 cases h:sl n with
 | false=>
  rw [h] at hi;rw [putR_no h];go_enter Tryz.func251,Tryz.ntmps251;go_wp2_with (go_at_call 307;refine (hi _).mono ?_;rintro e w' ⟨rfl,rfl⟩)
  go_ret2
  exact ⟨rfl,rfl⟩
 | true=>
  obtain ⟨k,rfl,hk⟩:=sl_nat h;rw [h] at hi;have ha:=alone_any k hk;have h2:=pow_lt hk;have ho:=u64_or_nat s (2^k) hs h2;rw [or_put] at ho;rw [putR_sl hk];generalize 2^k=p at *;go_enter Tryz.func251,Tryz.ntmps251;go_wp2_with (first | (go_at_call 307;refine (hi _).mono ?_;rintro e w' ⟨rfl,rfl⟩) | (go_at_call 308;refine (ha _).mono ?_;rintro e w' ⟨rfl,rfl⟩))
  go_ret2
  exact ⟨rfl,rfl⟩
open Go.RowKit Go.Maps Go.Shelf
attribute [local go_sem] Oper.semAt_some
set_option linter.unusedVariables false
set_option linter.unusedSimpArgs false
/- The library's table stands. -/
def G64:Nat:=Tryz.lays7x29_ren.g 1
def Tb (w:World):Prop:=G64<w.heap.size∧TabAt G64 Lib.deBruijn64tab w
theorem Tb.below {n:Nat} {W W':World} (h:Tb W) (hb:Below n W W') (hn:G64<n):Tb W':=
 ⟨Nat.lt_of_lt_of_le h.1 hb.size,fun j hj=>(hb.cell (p:=⟨G64,j,none⟩) hn).trans (h.2 j hj)⟩
theorem Tb.later {W W':World} (h:Tb W) (hb:Below W.heap.size W W'):Tb W':=h.below hb h.1
theorem tz_any (r:Nat) (hr:r<18446744073709551616) (w:World) (h:Tb w):Calls Tryz.prog 346 #[.int .u64 (r:Int)] w fun e w'=>e=.returned (.int .i64 ((tz r:Nat):Int))∧w'=w:=
 Any7.bits_TrailingZeros64 Tryz.lays7x29 r hr w (fun _=>h.2)
set_option maxRecDepth 100000 in
set_option maxHeartbeats 2000000 in
theorem slots1_in (n:Nat) (hn:1≤n) (lo Bs n0:Nat) (s:Nat) (hs:s<18446744073709551616) (J Jx:List Nat→World→Prop) (W:World) (hn0:n0≤W.heap.size) (hG:G64<n0) (hT:Tb W) (hJ:AbidesFrom W.heap.size J)
  (hY:∀pre x W1,J pre W1→pre.length<64→x<64→YieldAt Fence.wide (n - 1) Tryz.prog lo #[.int .i64 ((x:Nat):Int)] W1 fun e W'=>
   (e=.returned (.bool true)∧J (pre++[x]) W'∧Below n0 W1 W')∨(e=.returned (.bool false)∧Jx (pre++[x]) W'))
  (hBs:W.cell? ⟨Bs,0,none⟩=some (.int .u64 (s:Int))) (h0:J [] W):
  CallsIn Fence.wide n Tryz.prog 347 #[.func (.yield lo) #[] #[],.pointer (some ⟨Bs,0,none⟩)] W fun e W'=>(∃v,e=.returned v)∧
   ((∃ys,ys=bl s∧J ys W')∨(∃pre,pre<+:bl s∧Jx pre W')):=by
 refine callsIn_of_wp Tryz.func347 rfl trivial ?_ rfl;simp only [Tryz.ntmps347,List.size_toArray,List.length_cons,List.length_nil,Nat.reduceAdd,Nat.reduceSub,Array.replicate_succ,Array.replicate_zero,List.push_toArray,List.append_toArray,List.nil_append,List.cons_append]
 gi_wp2
 gi_loopw [3] (fun x wr=>∃(r:Nat) (pre:List Nat),r<18446744073709551616∧pre++bl r=bl s∧x=.int .u64 (r:Int)∧J pre wr∧Below n0 W wr) (fun x _=>(intOf x).toNat)
 case atStart=>exact ⟨s,[],hs,rfl,rfl,h0,Below.refl _ _⟩
 case round=>
  obtain ⟨r,pre,hr,hp,rfl,hJp,hbw⟩:=hrel;have HP:Hid (pre++bl r=bl s):=hp;have HJP:Hid (J pre wr):=hJp;have HBW:Hid (Below n0 W wr):=hbw;have HT:Hid (Tb wr):=hT.below hbw hG;clear hp hJp hbw;by_cases hr0:r=0
  ·subst hr0
   gi_wp2_with fail
   go_end0
   have e:=HP.out;rw [bl_zero,List.append_nil] at e;exact ⟨⟨_,rfl⟩,.inl ⟨pre,e,HJP.out⟩⟩
  ·have j0:¬((r:Int)=0):=by omega
   have j1:((r:Int)==0)=false:=by simp;omega
   have hst:=bl_step hr0 hr;have hlt:=and_lt hr0;have hz:=tz_any r hr wr HT.out;have m1:IntKind.u64.wrap ((r:Int) - 1)=((r - 1:Nat):Int):=by rw [u64_fit _ (by omega) (by omega)];omega
   have m2:=u64_and_nat r (r - 1) hr (by omega);obtain ⟨q,hq⟩:∃q,r&&& (r - 1)=q:=⟨_,rfl⟩;obtain ⟨k,hk⟩:∃k,tz r=k:=⟨_,rfl⟩;obtain ⟨r1,hr1⟩:∃r1,r - 1=r1:=⟨_,rfl⟩;rw [hq] at hst hlt m2;have hk64:k<64:=by obtain ⟨_,_,h64⟩:=tz_spec hr0 hr;rw [hk] at h64;exact h64
   rw [hk] at hst hz;rw [hr1] at m1 m2
   have he:(pre++[k])++bl q=bl s:=by
    have:=HP.out;rw [hst] at this
    simpa using this
   have HE:Hid ((pre++[k])++bl q=bl s):=he;clear he
   have hlen:pre.length<64:=by
    have h1:=bl_len s;rw [←HE.out] at h1;simp at h1;omega
   obtain ⟨fn,tmps,assign,body,hy,hR⟩:=hY pre k wr HJP.out hlen hk64;have HLT:Hid (q<r):=hlt;clear hst hq hk hr1 hlt hlen hk64
   gi_wp2_with fail
   refine ⟨trivial,(callsIn_wide.2 hz).mono ?_⟩;rintro e w3 ⟨rfl,rfl⟩
   gi_wp2_with fail
   refine hR.mono ?_;rintro e W4 (⟨rfl,hJ4,hk4⟩ | ⟨rfl,hJx4⟩)
   ·gi_wp2_with fail
    go_roundw
    case rel=>exact ⟨q,_,by have:=HLT.out;omega,HE.out,rfl,hJ4,HBW.out.trans hk4⟩
    case measure=>have:=HLT.out;simp [intOf];omega
   ·gi_wp2_with fail
    refine bodyPost_ret (results_none rfl _ _ _) rfl ?_;exact ⟨⟨_,rfl⟩,.inr ⟨_,⟨_,HE.out⟩,hJx4⟩⟩
theorem slots_in (n:Nat) (s:Nat) (w:World):
  CallsIn Fence.wide n Tryz.prog 336 #[.int .u64 (s:Int)] w fun e w'=>e=.returned (.func (.func 347) #[] #[.pointer (some ⟨w.heap.size,0,none⟩)])∧w'=w.alloc (.cells #[.int .u64 (s:Int)] 160):=by
 refine callsIn_of_wp Tryz.func336 rfl trivial ?_ rfl;simp only [Tryz.ntmps336,List.size_toArray,List.length_cons,List.length_nil,Nat.reduceAdd,Nat.reduceSub,Array.replicate_succ,Array.replicate_zero,List.push_toArray,List.append_toArray,List.nil_append,List.cons_append]
 gi_wp2
 go_ret;exact ⟨rfl,rfl⟩
/- The same, where a round wants to know that its number is a slot. -/
def vals (l:List (Fin 64)):List Nat:=l.map Fin.val
theorem vals_snoc (l:List (Fin 64)) (k:Fin 64):vals (l++[k])=vals l++[k.1]:=by simp [vals]
@[simp] theorem vals_length (l:List (Fin 64)):(vals l).length=l.length:=by simp [vals]
theorem slots_stopsF (n:Nat) (hn:1≤n) (Bs n0:Nat) (s:Nat) (hs:s<18446744073709551616) (w:World) (hBs:Bs<w.heap.size) (hn0:n0≤w.heap.size) (hG:G64<n0) (hT:Tb w)
  (hc:w.cell? ⟨Bs,0,none⟩=some (.int .u64 (s:Int))):
  SeqStopsK Fence.wide n Tryz.prog 347 #[.pointer (some ⟨Bs,0,none⟩)] (fun x:Fin 64=>#[Value.int .i64 ((x.1:Nat):Int)]) (Below n0) (fun ys=>vals ys=bl s) (fun pre=>vals pre<+:bl s) 64 w:=fun lo J Jx W hW hJ _ hY h0=>by
 refine (slots1_in n hn lo Bs n0 s hs (fun pre W=>∃p,vals p=pre∧J p W) (fun pre W=>∃p,vals p=pre∧Jx p W) W (Nat.le_trans hn0 hW.size) hG (hT.later hW)
  (fun pre A B row ⟨p,hp,hj⟩ hg hr=>⟨p,hp,hJ p A B row hj hg hr⟩) ?_ ((hW.cell (p:=⟨Bs,0,none⟩) hBs).trans hc) ⟨[],rfl,h0⟩).mono ?_
 ·rintro pre x W1 ⟨p,rfl,hj⟩ hlen hx;obtain ⟨fn,tmps,assign,body,hy,hR⟩:=hY p ⟨x,hx⟩ W1 hj (by simpa using hlen);refine ⟨fn,tmps,assign,body,hy,hR.mono ?_⟩;rintro e W' (⟨he,h1,h2⟩ | ⟨he,h1⟩)
  ·exact .inl ⟨he,⟨_,vals_snoc _ _,h1⟩,h2⟩
  ·exact .inr ⟨he,⟨_,vals_snoc _ _,h1⟩⟩
 ·rintro e W' ⟨he,(⟨ys,rfl,p,hp,hj⟩ | ⟨pre,hpre,p,hp,hj⟩)⟩
  ·exact ⟨he,.inl ⟨p,hp,hj⟩⟩
  ·subst hp;exact ⟨he,.inr ⟨p,hpre,hj⟩⟩
attribute [local go_sem] Oper.semAt_some
set_option linter.unusedVariables false
set_option linter.unusedSimpArgs false
theorem below_putObj {n0:Nat} {w:World} (hn:n0≤w.heap.size):∀(W:World) (l:Nat) (o o':Obj),w.heap.size≤l→W.heap[l]? =some o→o.isCells=false→o.isWalk=false→Below n0 W (W.putObj l o'):=belowK_b hn
theorem pure_own {β:Type} {B:Nat} (p:β→Prop):OwnFrom B (fun (s:β) (_:World)=>p s):=fun s W W' row hs _ _=>hs
theorem xor_all {s:Nat} (hs:s<18446744073709551616):18446744073709551615^^^s=nt s:=by
 have h64:(18446744073709551615:Nat)^^^s<18446744073709551616:=Nat.xor_lt_two_pow (n:=64) (by decide) hs;apply eq_of_bits h64 (nt_lt s)
 intro i hi;rw [nt_bit hs hi,Nat.testBit_xor,show (18446744073709551615:Nat)=2^64 - 1 by decide,Nat.testBit_two_pow_sub_one];simp [hi]
theorem not_u64 (s:Nat) (h:s<18446744073709551616):bits BinOp.xor IntKind.u64 IntKind.u64.max (s:Int)=((nt s:Nat):Int):=by
 rw [show IntKind.u64.max=((18446744073709551615:Nat):Int) by decide,u64_xor_nat _ _ (by decide) h,xor_all h]
attribute [local go_sem] Oper.semAt_some
set_option linter.unusedVariables false
set_option linter.unusedSimpArgs false
theorem infoInt:(Tryz.prog.info? 3).map (fun i=>(i.zero,i.size,i.bytes))=some (some (.int .i64 0),1,8):=by kernel_rfl
/- Places as a slice's cells. -/
def nI (l:List Nat):List Value:=l.map fun k=>.int .i64 ((k:Nat):Int)
@[simp] theorem nI_length (l:List Nat):(nI l).length=l.length:=by simp [nI]
theorem nI_snoc (l:List Nat) (k:Nat):nI (l++[k])=nI l++[.int .i64 (k:Int)]:=by simp [nI]
/- A slice of numbers that is new. -/
def NewL (w w':World) (v:Value) (l:List Nat):Prop:=w'.ownsRow w.heap.size 3 1 v l.length (nI l)
/- The 64 places as cells. -/
def plf (f:Nat→Bool):Array Value:=Array.ofFn (n:=64) fun i=>.bool (f i.1)
@[simp] theorem plf_size (f:Nat→Bool):(plf f).size=64:=by simp [plf]
/- The places, as many as have been seen. -/
def seen (s k:Nat):Array Value:=plf fun i=>decide (i<k)&&s.testBit i
@[simp] theorem seen_size (s k:Nat):(seen s k).size=64:=by simp [seen]
theorem heap_setRow_same {w:World} {g:Nat} {cs:Array Value} {t:TypeId} {fr:Nat×Nat} (h:w.heap[g]? =some (.cells cs t fr)) (cs':Array Value):(w.setRow g cs').heap[g]? =some (.cells cs' t fr):=by
 simp only [World.setRow,Array.getElem?_modify];rw [if_pos trivial,h];rfl
theorem setRow_below {n g:Nat} {w W:World} (hg:n≤g) (h:Below n w W) (cs:Array Value):Below n w (W.setRow g cs):=by
 refine h.trans ⟨rfl,rfl,rfl,by simp,fun k hk=>?_⟩;simp only [World.setRow,Array.getElem?_modify];rw [if_neg (by omega)]
theorem and_split (k a b m M:Nat) (ha:a<2^k) (hm:m<2^k):(2^k * b+a)&&& (2^k * M+m)=2^k * (b&&& M)+(a&&& m):=by
 apply Nat.eq_of_testBit_eq
 intro i;rw [Nat.testBit_and,Nat.testBit_two_pow_mul_add _ ha,Nat.testBit_two_pow_mul_add _ hm,Nat.testBit_two_pow_mul_add _ (Nat.and_lt_two_pow _ hm)];by_cases h:i<k
 ·simp [h,Nat.testBit_and]
 ·simp [h,Nat.testBit_and]
def stA (M x:Nat):Nat:=(x/2&&& M)+(x&&& M)
def stB (M x:Nat):Nat:=(x/4&&& M)+(x&&& M)
def stC (M x:Nat):Nat:=(x/16+x)&&& M
def mk (c:Nat):Nat→Nat
 | 0=>0
 | n+1=>256 * mk c n+c
theorem stA_split (a b M:Nat) (ha:a<256):stA (256 * M+85) (256 * b+a)=256 * stA M b+stA 85 a:=by
 unfold stA;have h1:(256 * b+a)/2=2^8 * (b/2)+(2^7 * (b%2)+a/2):=by omega
 have h2:(2^7 * (b%2)+a/2)&&& 85=a/2&&& 85:=by
  have:=and_split 7 (a/2) (b%2) 85 0 (by omega) (by decide);rw [Nat.mul_zero,Nat.zero_add,Nat.and_zero,Nat.mul_zero,Nat.zero_add] at this;exact this
 have h3:=and_split 8 (2^7 * (b%2)+a/2) (b/2) 85 M (by omega) (by decide);have h4:=and_split 8 a b 85 M (by omega) (by decide);rw [h2] at h3;rw [h1,show (256:Nat)=2^8 by decide,h3,h4];omega
theorem stB_split (a b M:Nat) (ha:a<256):stB (256 * M+51) (256 * b+a)=256 * stB M b+stB 51 a:=by
 unfold stB;have h1:(256 * b+a)/4=2^8 * (b/4)+(2^6 * (b%4)+a/4):=by omega
 have h2:(2^6 * (b%4)+a/4)&&& 51=a/4&&& 51:=by
  have:=and_split 6 (a/4) (b%4) 51 0 (by omega) (by decide);rw [Nat.mul_zero,Nat.zero_add,Nat.and_zero,Nat.mul_zero,Nat.zero_add] at this;exact this
 have h3:=and_split 8 (2^6 * (b%4)+a/4) (b/4) 51 M (by omega) (by decide);have h4:=and_split 8 a b 51 M (by omega) (by decide);rw [h2] at h3;rw [h1,show (256:Nat)=2^8 by decide,h3,h4];omega
theorem stC_split (a b M:Nat) (ha:a/16≤4) (ha2:a%16≤4) (hb:b%16≤4):stC (256 * M+15) (256 * b+a)=256 * stC M b+(a/16+a%16):=by
 unfold stC;have h1:(256 * b+a)/16+(256 * b+a)=2^8 * (b/16+b)+(2^4 * (b%16+a/16)+(a/16+a%16)):=by omega
 have h3:=and_split 8 (2^4 * (b%16+a/16)+(a/16+a%16)) (b/16+b) 15 M (by omega) (by decide)
 have h2:(2^4 * (b%16+a/16)+(a/16+a%16))&&& 15=a/16+a%16:=by
  have:=and_split 4 (a/16+a%16) (b%16+a/16) 15 0 (by omega) (by decide);rw [Nat.mul_zero,Nat.zero_add,Nat.and_zero,Nat.mul_zero,Nat.zero_add] at this;rw [this,nat_mask4];omega
 rw [h2] at h3;rw [h1,show (256:Nat)=2^8 by decide,h3]
theorem byte_facts:∀a:Fin 256,stA 85 a.1<256∧stB 51 (stA 85 a.1)/16≤4∧stB 51 (stA 85 a.1)%16≤4∧stB 51 (stA 85 a.1)/16+stB 51 (stA 85 a.1)%16=ct 8 a.1∧ct 8 a.1≤8:=by decide+kernel
def pc:Nat→Nat→Nat
 | 0,_=>0
 | n+1,x=>256 * pc n (x/256)+ct 8 (x%256)
theorem pc_spec:∀(n x:Nat),x<256^n→stB (mk 51 n) (stA (mk 85 n) x)%16≤4∧stC (mk 15 n) (stB (mk 51 n) (stA (mk 85 n) x))=pc n x
 | 0,x,h=>by
  have:x=0:=by simpa using h
  subst this;decide
 | n+1,x,h=>by
  obtain ⟨ih1,ih2⟩:=pc_spec n (x/256) (by rw [Nat.pow_succ] at h;omega);obtain ⟨h1,h2,h3,h4,h5⟩:=byte_facts ⟨x%256,by omega⟩;dsimp only at h1 h2 h3 h4 h5
  have e1:stA (mk 85 (n+1)) x=256 * stA (mk 85 n) (x/256)+stA 85 (x%256):=by
   have:=stA_split (x%256) (x/256) (mk 85 n) (by omega);rw [show 256 * (x/256)+x%256=x by omega] at this;exact this
  have e2:=stB_split (stA 85 (x%256)) (stA (mk 85 n) (x/256)) (mk 51 n) h1;rw [e1,show mk 51 (n+1)=256 * mk 51 n+51 from rfl,e2,show mk 15 (n+1)=256 * mk 15 n+15 from rfl,stC_split _ _ _ h2 h3 ih1,ih2,h4,pc];exact ⟨by omega,rfl⟩
theorem ct_split (n x:Nat):ct (n+8) x=ct 8 (x%256)+ct n (x/256):=by
 have e:x/2/2/2/2/2/2/2/2=x/256:=by omega
 simp only [ct];rw [e];omega
theorem ct8_le (y:Nat):ct 8 (y%256)≤8:=(byte_facts ⟨y%256,by omega⟩).2.2.2.2
/- The eight sums, one above the other. -/
theorem pc_parts (x:Nat):∃p0 p1 p2 p3 p4 p5 p6 p7,p0≤8∧p1≤8∧p2≤8∧p3≤8∧p4≤8∧p5≤8∧p6≤8∧p7≤8∧
  pc 8 x=p0+256 * p1+65536 * p2+16777216 * p3+4294967296 * p4+1099511627776 * p5+281474976710656 * p6+72057594037927936 * p7∧ct 64 x=p0+p1+p2+p3+p4+p5+p6+p7:=by
 refine ⟨_,_,_,_,_,_,_,_,ct8_le x,ct8_le (x/256),ct8_le (x/256/256),ct8_le (x/256/256/256),ct8_le (x/256/256/256/256),ct8_le (x/256/256/256/256/256),ct8_le (x/256/256/256/256/256/256),ct8_le (x/256/256/256/256/256/256/256),?_,?_⟩
 ·simp only [pc];omega
 ·have e0:=ct_split 56 x;have e1:=ct_split 48 (x/256);have e2:=ct_split 40 (x/256/256);have e3:=ct_split 32 (x/256/256/256);have e4:=ct_split 24 (x/256/256/256/256);have e5:=ct_split 16 (x/256/256/256/256/256);have e6:=ct_split 8 (x/256/256/256/256/256/256);have e7:=ct_split 0 (x/256/256/256/256/256/256/256);simp only [show ∀y,ct 0 y=0 from fun _=>rfl,Nat.add_zero,Nat.zero_add,Nat.reduceAdd] at e0 e1 e2 e3 e4 e5 e6 e7;rw [e0,e1,e2,e3,e4,e5,e6,e7];omega
theorem div_of {a q n r:Nat} (h:a=r+n * q) (hr:r<n):a/n=q:=by
 subst h;rw [Nat.add_mul_div_left _ _ (by omega),Nat.div_eq_of_lt hr,Nat.zero_add]
theorem sum1 {p0 p1 p2 p3 p4 p5 p6 p7:Nat} (h0:p0≤8):(p0+256 * p1+65536 * p2+16777216 * p3+4294967296 * p4+1099511627776 * p5+281474976710656 * p6+72057594037927936 * p7)/256=p1+256 * p2+65536 * p3+16777216 * p4+4294967296 * p5+1099511627776 * p6+281474976710656 * p7:=
 div_of (r:=p0) (by clear h0;omega) (by omega)
theorem lin1 (p0 p1 p2 p3 p4 p5 p6 p7:Nat):(p0+256 * p1+65536 * p2+16777216 * p3+4294967296 * p4+1099511627776 * p5+281474976710656 * p6+72057594037927936 * p7)+(p1+256 * p2+65536 * p3+16777216 * p4+4294967296 * p5+1099511627776 * p6+281474976710656 * p7)
  =(p0+p1+256 * (p1+p2))+65536 * ((p2+p3)+256 * (p3+p4)+65536 * (p4+p5)+16777216 * (p5+p6)+4294967296 * (p6+p7)+1099511627776 * p7):=by omega
theorem lin2 (p0 p1 p2 p3 p4 p5 p6 p7:Nat):(p0+p1+256 * (p1+p2))+65536 * ((p2+p3)+256 * (p3+p4)+65536 * (p4+p5)+16777216 * (p5+p6)+4294967296 * (p6+p7)+1099511627776 * p7)+((p2+p3)+256 * (p3+p4)+65536 * (p4+p5)+16777216 * (p5+p6)+4294967296 * (p6+p7)+1099511627776 * p7)
  =(p0+p1+p2+p3+256 * (p1+p2+p3+p4)+65536 * (p2+p3+p4+p5)+16777216 * (p3+p4+p5+p6))+4294967296 * ((p4+p5+p6+p7)+256 * (p5+p6+p7)+65536 * (p6+p7)+16777216 * p7):=by omega
theorem lin3 (p0 p1 p2 p3 p4 p5 p6 p7:Nat):(p0+p1+p2+p3+256 * (p1+p2+p3+p4)+65536 * (p2+p3+p4+p5)+16777216 * (p3+p4+p5+p6))+4294967296 * ((p4+p5+p6+p7)+256 * (p5+p6+p7)+65536 * (p6+p7)+16777216 * p7)+((p4+p5+p6+p7)+256 * (p5+p6+p7)+65536 * (p6+p7)+16777216 * p7)
  =(p0+p1+p2+p3+p4+p5+p6+p7)+128 * (2 * (p1+p2+p3+p4+p5+p6+p7)+512 * (p2+p3+p4+p5+p6+p7)+131072 * (p3+p4+p5+p6+p7)+33554432 * ((p4+p5+p6+p7)+256 * (p5+p6+p7)+65536 * (p6+p7)+16777216 * p7)):=by omega
theorem sums {p0 p1 p2 p3 p4 p5 p6 p7 v u t:Nat} (h0:p0≤8) (h1:p1≤8) (h2:p2≤8) (h3:p3≤8) (h4:p4≤8) (h5:p5≤8) (h6:p6≤8) (h7:p7≤8)
  (e1:v=p0+256 * p1+65536 * p2+16777216 * p3+4294967296 * p4+1099511627776 * p5+281474976710656 * p6+72057594037927936 * p7)
  (hu:v+v/256=u) (ht:u+u/65536=t):u<18446744073709551616∧t<18446744073709551616∧t+t/4294967296<9223372036854775808∧(t+t/4294967296)%128=p0+p1+p2+p3+p4+p5+p6+p7:=by
 rw [e1,sum1 h0,lin1] at hu;have d2:u/65536=(p2+p3)+256 * (p3+p4)+65536 * (p4+p5)+16777216 * (p5+p6)+4294967296 * (p6+p7)+1099511627776 * p7:=div_of hu.symm (by clear hu ht e1;omega);rw [d2,←hu,lin2] at ht;have d3:t/4294967296=(p4+p5+p6+p7)+256 * (p5+p6+p7)+65536 * (p6+p7)+16777216 * p7:=div_of ht.symm (by clear hu ht e1 d2;omega);rw [d3,←hu,←ht,lin3];clear hu ht e1 d2 d3;refine ⟨by omega,by omega,by omega,?_⟩;rw [Nat.add_mul_mod_self_left];omega
theorem pc_sum (x:Nat) (v:Nat) (hv:pc 8 x=v):v+v/256<18446744073709551616∧(v+v/256)+(v+v/256)/65536<18446744073709551616∧
  ((v+v/256)+(v+v/256)/65536)+((v+v/256)+(v+v/256)/65536)/4294967296<9223372036854775808∧
  (((v+v/256)+(v+v/256)/65536)+((v+v/256)+(v+v/256)/65536)/4294967296)%128=ct 64 x:=by
 obtain ⟨p0,p1,p2,p3,p4,p5,p6,p7,h0,h1,h2,h3,h4,h5,h6,h7,e1,e2⟩:=pc_parts x;rw [hv] at e1;rw [e2];exact sums h0 h1 h2 h3 h4 h5 h6 h7 e1 rfl rfl
theorem stA_lt {x:Nat} (h:x<18446744073709551616):stA 6148914691236517205 x<18446744073709551616:=by
 unfold stA;have h1:x/2&&& 6148914691236517205≤6148914691236517205:=Nat.and_le_right;have h2:x&&& 6148914691236517205≤6148914691236517205:=Nat.and_le_right;omega
theorem stB_lt {x:Nat} (h:x<18446744073709551616):stB 3689348814741910323 x≤7378697629483820646:=by
 unfold stB;have h1:x/4&&& 3689348814741910323≤3689348814741910323:=Nat.and_le_right;have h2:x&&& 3689348814741910323≤3689348814741910323:=Nat.and_le_right;omega
theorem mk85:mk 85 8=6148914691236517205:=by decide
theorem mk51:mk 51 8=3689348814741910323:=by decide
theorem mk15:mk 15 8=1085102592571150095:=by decide
theorem pc8 {x:Nat} (h:x<18446744073709551616):stC 1085102592571150095 (stB 3689348814741910323 (stA 6148914691236517205 x))=pc 8 x:=by
 have:=(pc_spec 8 x h).2;rw [mk85,mk51,mk15] at this;exact this
set_option maxHeartbeats 1000000 in
theorem ones_any (x:Nat) (hx:x<18446744073709551616) (w:World):Calls Tryz.prog 335 #[.int .u64 (x:Int)] w fun e w'=>e=.returned (.int .i64 (((bl x).length:Nat):Int))∧w'=w:=by
 rw [bl_ct];have hA:=stA_lt hx;have hB:=stB_lt hA;have hv:=pc8 hx;obtain ⟨y,hy⟩:∃y,stA 6148914691236517205 x=y:=⟨_,rfl⟩;obtain ⟨z,hz⟩:∃z,stB 3689348814741910323 y=z:=⟨_,rfl⟩;rw [hy] at hA hB hv;rw [hz] at hB hv;have a1:bits .and .u64 ((x/2:Nat):Int) 6148914691236517205=((x/2&&& 6148914691236517205:Nat):Int):=u64_and_nat (x/2) 6148914691236517205 (by omega) (by decide);have a2:bits .and .u64 (x:Int) 6148914691236517205=((x&&& 6148914691236517205:Nat):Int):=u64_and_nat x 6148914691236517205 hx (by decide)
 have a3:IntKind.u64.wrap (((x/2&&& 6148914691236517205:Nat):Int)+((x&&& 6148914691236517205:Nat):Int))=(y:Int):=by
  unfold stA at hy;rw [u64_fit _ (by omega) (by omega)];omega
 have b1:bits .and .u64 ((y/4:Nat):Int) 3689348814741910323=((y/4&&& 3689348814741910323:Nat):Int):=u64_and_nat (y/4) 3689348814741910323 (by omega) (by decide);have b2:bits .and .u64 (y:Int) 3689348814741910323=((y&&& 3689348814741910323:Nat):Int):=u64_and_nat y 3689348814741910323 hA (by decide)
 have b3:IntKind.u64.wrap (((y/4&&& 3689348814741910323:Nat):Int)+((y&&& 3689348814741910323:Nat):Int))=(z:Int):=by
  unfold stB at hz;rw [u64_fit _ (by omega) (by omega)];omega
 have c1:IntKind.u64.wrap (((z/16:Nat):Int)+(z:Int))=((z/16+z:Nat):Int):=by rw [u64_fit _ (by omega) (by omega)];omega
 have c2:bits .and .u64 ((z/16+z:Nat):Int) 1085102592571150095=((z/16+z&&& 1085102592571150095:Nat):Int):=u64_and_nat (z/16+z) 1085102592571150095 (by omega) (by decide);unfold stC at hv;obtain ⟨v,hv2⟩:∃v,pc 8 x=v:=⟨_,rfl⟩;obtain ⟨s1,s2,s3,s4⟩:=pc_sum x v hv2;rw [hv,hv2] at c2;obtain ⟨u,hu⟩:∃u,v+v/256=u:=⟨_,rfl⟩;rw [hu] at s1 s2 s3 s4;obtain ⟨t,ht⟩:∃t,u+u/65536=t:=⟨_,rfl⟩;rw [ht] at s2 s3 s4;obtain ⟨q,hq⟩:∃q,t+t/4294967296=q:=⟨_,rfl⟩;rw [hq] at s3 s4;have d1:IntKind.u64.wrap ((v:Int)+((v/256:Nat):Int))=(u:Int):=by rw [u64_fit _ (by omega) (by omega)];omega
 have d2:IntKind.u64.wrap ((u:Int)+((u/65536:Nat):Int))=(t:Int):=by rw [u64_fit _ (by omega) (by omega)];omega
 have d3:IntKind.u64.wrap ((t:Int)+((t/4294967296:Nat):Int))=(q:Int):=by rw [u64_fit _ (by omega) (by omega)];omega
 have d4:IntKind.i64.wrap (q:Int)=(q:Int):=i64_fit _ (by omega) (by omega);have d5:=i64_and127 (q:Int);have n1:(x:Int)/2=((x/2:Nat):Int):=by omega
 have n2:(y:Int)/4=((y/4:Nat):Int):=by omega
 have n3:(z:Int)/16=((z/16:Nat):Int):=by omega
 have n4:(v:Int)/256=((v/256:Nat):Int):=by omega
 have n5:(u:Int)/65536=((u/65536:Nat):Int):=by omega
 have n6:(t:Int)/4294967296=((t/4294967296:Nat):Int):=by omega
 have HS:Hid (q%128=ct 64 x):=s4;clear hy hz hv hv2 hu ht hq s1 s2 s3 s4 hA hB;generalize (x/2&&& 6148914691236517205)=k1 at *;generalize (x&&& 6148914691236517205)=k2 at *;generalize (y/4&&& 3689348814741910323)=k3 at *;generalize (y&&& 3689348814741910323)=k4 at *;generalize (z/16+z)=k5 at *;generalize x/2=l1 at *;generalize y/4=l2 at *;generalize z/16=l3 at *;generalize v/256=l4 at *;generalize u/65536=l5 at *;generalize t/4294967296=l6 at *;go_enter Tryz.func335,Tryz.ntmps335;go_wp2
 go_ret;refine ⟨ret_int ?_,rfl⟩;have:=HS.out;omega
set_option maxHeartbeats 400000 in
theorem count_any (x:Nat) (hx:x<18446744073709551616) (w:World):Calls Tryz.prog 305 #[.int .u64 (x:Int)] w fun e w'=>e=.returned (.int .i64 (((bl x).length:Nat):Int))∧w'=w:=by
 go_enter Tryz.func305,Tryz.ntmps305;go_wp2_with (go_at_call 335;refine (ones_any x hx _).mono ?_;rintro e w' ⟨rfl,rfl⟩)
 go_ret;exact ⟨rfl,rfl⟩
end Go.Proofs.YtoimkngkcliinaaGreatDoor.Rs
