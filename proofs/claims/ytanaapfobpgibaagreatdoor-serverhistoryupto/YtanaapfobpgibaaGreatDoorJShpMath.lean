/- ShpMath, ShpMath2, ShpMath3, ShpA, ShpB, ShpC, ShpD, ShpE, ShpG, ShpJ, ShpH, ShpF, joined. -/
import Derived.WalkKit
import Derived.ProofKit
import Derived.Test.YtanaapfobpgibaaGreatDoorChecked
open Go.Proofs.Tryz
set_option maxHeartbeats 1000000
namespace Go.Proofs.YtanaapfobpgibaaGreatDoor.Sh
open Go.RowKit
variable {i v:Int}
theorem aj {k:IntKind} {a b:Int} (h:a=b):Ending.returned (.int k a)=.returned (.int k b):=by rw [h]
theorem ae {a b:Bool} (h:a=b):Ending.returned (.bool a)=.returned (.bool b):=by rw [h]
def par (v:Int):Int:=if 1≤v∧v<85 then (v - 1)/4 else -1
def LP (v i:Int):Int:=if 0≤v∧v<21∧0≤i∧i<4 then 4 * v+1+i else -1
def ue (s:Int):Int:=if 0≤s∧s<64 then 21+s else -1
def XN (v:Int):Int:=if 21≤v∧v<85 then v - 21 else -1
def K4 (v:Int):Int:=if v<0 then -1 else if v<1 then 0 else if v<5 then 1 else if v<21 then 2 else if v<85 then 3 else -1
def fst (k:Int):Int:=if k<1 then 0 else if k<2 then 1 else if k<3 then 5 else if k<4 then 21 else 85
def s9 (v:Int):Bool:=decide (0≤v∧v<85)
theorem Al (h0:1≤v) (h1:v<85):par v=(v - 1)/4:=by simp [par,h0,h1]
theorem Oi (h:v<1∨85≤v):par v=-1:=by simp [par];omega
theorem uV (h0:0≤v) (h1:v<21) (h2:0≤i) (h3:i<4):LP v i=4 * v+1+i:=by simp [LP,h0,h1,h2,h3]
theorem pN (h:v<0∨21≤v∨i<0∨4≤i):LP v i=-1:=by simp [LP];omega
theorem kf (h0:0≤v) (h1:v<64):ue v=21+v:=by simp [ue,h0,h1]
theorem wD (h:v<0∨64≤v):ue v=-1:=by simp [ue];omega
theorem Hy (h0:21≤v) (h1:v<85):XN v=v - 21:=by simp [XN,h0,h1]
theorem E5 (h:v<21∨85≤v):XN v=-1:=by simp [XN];omega
theorem jy (h:v<0∨85≤v):s9 v=false:=by simp [s9];omega
theorem RB:∀n:Fin 64,bits .and .u8 (n.val:Int) 3=(n.val:Int)%4:=by decide+kernel
theorem RD (x:Int) (h0:0≤x) (h1:x<64):bits .and .u8 x 3=x%4:=by
 have h:=RB ⟨x.toNat,by omega⟩
 rwa [Int.toNat_of_nonneg h0] at h
theorem O0 (h0:21≤v) (h1:v<85):K4 v=3:=by
 simp only [K4];repeat' split
 all_goals omega
variable {v w:Int}
def bc (v w:Int):Bool:=s9 v&&s9 w&&(v==w||v==par w||v==par (par w)||v==par (par (par w)))
def oH (v:Int):Nat→Int
 | 0=>0
 | n+1=>oH v n+if bc v (21+n) then 2^n else 0
def sj (v:Int):Int:=oH v 64
theorem CR (v:Int):∀n,0≤oH v n∧oH v n<2^n
 | 0=>by simp [oH]
 | n+1=>by
  have:=CR v n;simp only [oH,Int.pow_succ];split <;> omega
theorem JJ (h:s9 v=false):bc v w=false:=by simp [bc,h]
theorem nH (h:s9 w=false):bc v w=false:=by simp [bc,h]
theorem CP {v:Int} (h:s9 v=false):∀n,oH v n=0
 | 0=>rfl
 | n+1=>by simp [oH,CP h n,JJ h]
theorem Ym (h:v<0∨85≤v):sj v=0:=CP (jy h) 64
/-- The four levels: a mask is a row of ones, shifted. -/
theorem OO:∀n:Fin 64,IntKind.u64.wrap (2^((n.val:Int)).toNat)=sj (21+n.val):=by decide+kernel
theorem OP:∀n:Fin 16,IntKind.u64.wrap (15 * 2^((n.val:Int) * 4).toNat)=sj (5+n.val):=by decide+kernel
theorem OQ:∀n:Fin 4,IntKind.u64.wrap (65535 * 2^((n.val:Int) * 16).toNat)=sj (1+n.val):=by decide+kernel
theorem OS:sj 0=18446744073709551615:=by decide+kernel
theorem TR (h0:21≤v) (h1:v<85):IntKind.u64.wrap (2^(v - 21).toNat)=sj v:=by
 have h:=OO ⟨(v - 21).toNat,by omega⟩;simp only [Int.toNat_of_nonneg (show 0≤v - 21 by omega)] at h;rw [h];congr 1;omega
theorem TT (h0:5≤v) (h1:v<21):IntKind.u64.wrap (15 * 2^((v - 5) * 4).toNat)=sj v:=by
 have h:=OP ⟨(v - 5).toNat,by omega⟩;simp only [Int.toNat_of_nonneg (show 0≤v - 5 by omega)] at h;rw [h];congr 1;omega
theorem TU (h0:1≤v) (h1:v<5):IntKind.u64.wrap (65535 * 2^((v - 1) * 16).toNat)=sj v:=by
 have h:=OQ ⟨(v - 1).toNat,by omega⟩;simp only [Int.toNat_of_nonneg (show 0≤v - 1 by omega)] at h;rw [h];congr 1;omega
theorem acK (h0:1≤v) (h1:v<5):K4 v=1:=by simp only [K4];repeat' split;all_goals omega
theorem acJ (h0:5≤v) (h1:v<21):K4 v=2:=by simp only [K4];repeat' split;all_goals omega
theorem Oj (h0:1≤v) (h1:v<85):0≤par v∧par v<v:=by rw [Al h0 h1];omega
variable {v w:Int}
def hasB (X:Int) (s:Nat):Bool:=X/2^s%2==1
def km (X v:Int):Nat→Bool
 | 0=>false
 | n+1=>km X v n||(hasB X n&&bc v (21+n))
def eV (X:Int):Nat→Int
 | 0=>0
 | n+1=>eV X n+if km X n 64 then 2^n else 0
theorem xq (X:Int):∀n,0≤eV X n∧eV X n<2^n
 | 0=>by simp [eV]
 | n+1=>by
  have:=xq X n;simp only [eV,Int.pow_succ];split <;> omega
theorem KP:∀n:Fin 21,(2:Int)^n.val≤1048576:=by decide+kernel
theorem N3 (n:Nat) (h:n<21):(2:Int)^n≤1048576:=KP ⟨n,h⟩
theorem zx:∀v w:Fin 85,(v.val<w.val→bc v.val w.val=bc v.val (par w.val))∧(w.val≤v.val→bc v.val w.val=((w.val:Int)==v.val)):=by decide+kernel
theorem Br (h0:0≤v) (h1:v<w) (h2:w<85):bc v w=bc v (par w):=by
 have h:=(zx ⟨v.toNat,by omega⟩ ⟨w.toNat,by omega⟩).1 (by simp;omega)
 simpa [Int.toNat_of_nonneg h0,Int.toNat_of_nonneg (show 0≤w by omega)] using h
theorem uX (h0:0≤w) (h1:w≤v) (h2:v<85):bc v w=(w==v):=by
 have h:=(zx ⟨v.toNat,by omega⟩ ⟨w.toNat,by omega⟩).2 (by simp;omega)
 simpa [Int.toNat_of_nonneg h0,Int.toNat_of_nonneg (show 0≤v by omega)] using h
/-- The mask's bits. -/
def mN (v:Int):Nat→Nat
 | 0=>0
 | n+1=>(if bc v (21+n) then 2^n else 0)+mN v n
theorem OY (v:Int):∀n,mN v n<2^n
 | 0=>by simp [mN]
 | n+1=>by
  have:=OY v n;simp only [mN,Nat.pow_succ];split <;> omega
theorem CQ (v:Int):∀n,oH v n=(mN v n:Int)
 | 0=>rfl
 | n+1=>by
  simp only [oH,mN,CQ v n];split <;> push_cast <;> omega
theorem FT (v:Int):∀n i,(mN v n).testBit i=(decide (i<n)&&bc v (21+i))
 | 0,i=>by simp [mN]
 | n+1,i=>by
  simp only [mN];have ih:=FT v n;have hl:=OY v n;by_cases hb:bc v (21+n)=true
  ·rw [if_pos hb];rcases Nat.lt_trichotomy i n with h | h | h
   ·rw [Nat.testBit_two_pow_add_gt h,ih i];have:i<n+1:=by omega
    simp [h,this]
   ·subst h;rw [Nat.testBit_two_pow_add_eq,Nat.testBit_lt_two_pow hl];simp [hb]
   ·rw [Nat.testBit_lt_two_pow (Nat.lt_of_lt_of_le (show 2^n+mN v n<2^(n+1) by rw [Nat.pow_succ];omega) (Nat.pow_le_pow_right (by omega) h))];have:¬i<n+1:=by omega
    simp [this]
  ·rw [if_neg hb,Nat.zero_add,ih i];rcases Nat.lt_trichotomy i n with h | h | h
   ·have:i<n+1:=by omega
    simp [h,this]
   ·subst h;simp at hb;simp [hb]
   ·have h1:¬i<n:=by omega
    have h2:¬i<n+1:=by omega
    simp [h1,h2]
theorem m9 (X:Nat) (s:Nat):hasB (X:Int) s=X.testBit s:=by
 rw [Nat.testBit_eq_decide_div_mod_eq,hasB];have e:((X:Int)/2^s%2)=((X/2^s%2:Nat):Int):=by push_cast;rfl
 rw [e];generalize X/2^s%2=q;rw [Bool.eq_iff_iff,beq_iff_eq,decide_eq_true_eq];omega
theorem om (X v:Int):∀n,km X v n=true↔∃s,s<n∧hasB X s=true∧bc v (21+s)=true
 | 0=>by simp [km]
 | n+1=>by
  simp only [km,Bool.or_eq_true,Bool.and_eq_true,om X v n];constructor
  ·rintro (⟨s,h,a,b⟩ | ⟨a,b⟩)
   ·exact ⟨s,by omega,a,b⟩
   ·exact ⟨n,by omega,a,b⟩
  ·rintro ⟨s,h,a,b⟩;by_cases e:s=n
   ·subst e;exact .inr ⟨a,b⟩
   ·exact .inl ⟨s,by omega,a,b⟩
theorem IQ (v X:Int) (h0:0≤X) (h1:X<18446744073709551616):(bits .and .u64 (sj v) X !=0)=km X v 64:=by
 obtain ⟨x,rfl⟩:=Int.eq_ofNat_of_zero_le h0;have hx:x<18446744073709551616:=by omega
 have hm:=OY v 64;rw [sj,CQ,u64_and_nat _ _ (by simpa using hm) hx];rw [Bool.eq_iff_iff,om];constructor
 ·intro h;have hne:mN v 64&&& x≠0:=by intro e;rw [e] at h;simp at h
  obtain ⟨i,hi⟩:=Nat.exists_testBit_of_ne_zero hne;rw [Nat.testBit_and,FT] at hi;simp only [Bool.and_eq_true,decide_eq_true_eq] at hi;exact ⟨i,hi.1.1,by rw [m9];exact hi.2,hi.1.2⟩
 ·rintro ⟨s,hs,ha,hb⟩;rw [m9] at ha;have:(mN v 64&&& x).testBit s=true:=by rw [Nat.testBit_and,FT];simp [hs,ha,hb]
  have hne:mN v 64&&& x≠0:=by intro e;rw [e] at this;simp at this
  simp;omega
theorem TJ (A:Int) (k:Nat) (hk:k<21) (h0:0≤A) (h1:A<2^k):bits .or .u32 A (2^k%4294967296)=A+2^k:=by
 have hp:=N3 k hk;obtain ⟨a,rfl⟩:=Int.eq_ofNat_of_zero_le h0;have hc:((2:Int)^k)=((2^k:Nat):Int):=by push_cast;rfl
 rw [hc] at hp h1 ⊢;rw [Int.emod_eq_of_lt (by omega) (by omega),u32_or_nat _ _ (by omega) (by omega),Nat.or_comm,nat_join k (2^k) a (by simp) (by omega)];omega
theorem Yn (v:Int):0≤sj v∧sj v<18446744073709551616:=CR v 64
theorem fA (v:Int) (h0:0≤v) (h1:v<85) (w:World):
  Calls prog 209 #[.int .i64 v] w fun e w'=>e=.returned (.bool true)∧w'=w:=by
 go_enter func209,ntmps209;go_wp2
 go_ret;exact ⟨rfl,rfl⟩
theorem su (v:Int) (h:v<0∨85≤v) (w:World):
  Calls prog 209 #[.int .i64 v] w fun e w'=>e=.returned (.bool false)∧w'=w:=by
 by_cases h0:0≤v
 ·have h1:decide (v<85)=false:=by simp;omega
  clear h;go_enter func209,ntmps209;go_wp2
  go_ret;exact ⟨ae (by first | rfl | exact h1),rfl⟩
 ·clear h;go_enter func209,ntmps209;go_wp2
  go_ret;exact ⟨rfl,rfl⟩
theorem kh (v:Int) (h0:0≤v) (h1:v<21) (w:World):
  Calls prog 208 #[.int .i64 v] w fun e w'=>e=.returned (.bool true)∧w'=w:=by
 go_enter func208,ntmps208;go_wp2
 go_ret;exact ⟨rfl,rfl⟩
theorem wG (v:Int) (h:v<0∨21≤v) (w:World):
  Calls prog 208 #[.int .i64 v] w fun e w'=>e=.returned (.bool false)∧w'=w:=by
 by_cases h0:0≤v
 ·have h1:decide (v<21)=false:=by simp;omega
  clear h;go_enter func208,ntmps208;go_wp2
  go_ret;exact ⟨ae (by first | rfl | exact h1),rfl⟩
 ·clear h;go_enter func208,ntmps208;go_wp2
  go_ret;exact ⟨rfl,rfl⟩
theorem LN (v i:Int) (w:World):
  Calls prog 154 #[.int .i64 v,.int .i64 i] w fun e w'=>e=.returned (.int .i64 (LP v i))∧w'=w:=by
 by_cases h:0≤v∧v<21
 ·obtain ⟨h0,h1⟩:=h;by_cases h2:0≤i
  ·by_cases h3:i<4
   ·go_enter func154,ntmps154;go_wp2_with (go_at_call 208;refine (kh _ (by omega) (by omega) _).mono ?_;rintro e w' ⟨rfl,rfl⟩)
    go_ret;exact ⟨aj (by rw [uV h0 h1 h2 h3];omega),rfl⟩
   ·have hp:Hid (LP v i=-1):=pN (by omega);go_enter func154,ntmps154;go_wp2_with (go_at_call 208;refine (kh _ (by omega) (by omega) _).mono ?_;rintro e w' ⟨rfl,rfl⟩)
    go_ret;exact ⟨aj hp.out.symm,rfl⟩
  ·have hp:Hid (LP v i=-1):=pN (by omega);go_enter func154,ntmps154;go_wp2_with (go_at_call 208;refine (kh _ (by omega) (by omega) _).mono ?_;rintro e w' ⟨rfl,rfl⟩)
   go_ret;exact ⟨aj hp.out.symm,rfl⟩
 ·have hp:Hid (LP v i=-1):=pN (by omega);go_enter func154,ntmps154;go_wp2_with (go_at_call 208;refine (wG _ (by omega) _).mono ?_;rintro e w' ⟨rfl,rfl⟩)
  go_ret;exact ⟨aj hp.out.symm,rfl⟩
theorem wF (v:Int) (h0:0≤v) (h1:v<64) (w:World):
  Calls prog 213 #[.int .i64 v] w fun e w'=>e=.returned (.bool true)∧w'=w:=by
 go_enter func213,ntmps213;go_wp2
 go_ret;exact ⟨rfl,rfl⟩
theorem Lc (v:Int) (h:v<0∨64≤v) (w:World):
  Calls prog 213 #[.int .i64 v] w fun e w'=>e=.returned (.bool false)∧w'=w:=by
 by_cases h0:0≤v
 ·have h1:decide (v<64)=false:=by simp;omega
  clear h;go_enter func213,ntmps213;go_wp2
  go_ret;exact ⟨ae (by first | rfl | exact h1),rfl⟩
 ·clear h;go_enter func213,ntmps213;go_wp2
  go_ret;exact ⟨rfl,rfl⟩
theorem O2 (v:Int) (w:World):
  Calls prog 157 #[.int .i64 v] w fun e w'=>e=.returned (.int .i64 (ue v))∧w'=w:=by
 by_cases h:0≤v∧v<64
 ·obtain ⟨h0,h1⟩:=h;go_enter func157,ntmps157;go_wp2_with (go_at_call 213;refine (wF _ (by omega) (by omega) _).mono ?_;rintro e w' ⟨rfl,rfl⟩)
  go_ret;exact ⟨aj (kf h0 h1).symm,rfl⟩
 ·have hp:Hid (ue v=-1):=wD (by omega);go_enter func157,ntmps157;go_wp2_with (go_at_call 213;refine (Lc _ (by omega) _).mono ?_;rintro e w' ⟨rfl,rfl⟩)
  go_ret;exact ⟨aj hp.out.symm,rfl⟩
theorem Nc (v:Int) (w:World):
  Calls prog 205 #[.int .i64 v] w fun e w'=>e=.returned (.int .i64 (XN v))∧w'=w:=by
 by_cases h:0≤v∧v<85
 ·obtain ⟨h0,h1⟩:=h;by_cases h2:v<21
  ·have hp:Hid (XN v=-1):=E5 (by omega);go_enter func205,ntmps205;go_wp2_with (first | (go_at_call 209;refine (fA _ (by omega) (by omega) _).mono ?_;rintro e w' ⟨rfl,rfl⟩) | (go_at_call 208;refine (kh _ (by omega) (by omega) _).mono ?_;rintro e w' ⟨rfl,rfl⟩))
   go_ret;exact ⟨aj hp.out.symm,rfl⟩
  ·go_enter func205,ntmps205;go_wp2_with (first | (go_at_call 209;refine (fA _ (by omega) (by omega) _).mono ?_;rintro e w' ⟨rfl,rfl⟩) | (go_at_call 208;refine (wG _ (by omega) _).mono ?_;rintro e w' ⟨rfl,rfl⟩))
   go_ret;exact ⟨aj (Hy (by omega) (by omega)).symm,rfl⟩
 ·have hp:Hid (XN v=-1):=E5 (by omega);go_enter func205,ntmps205;go_wp2_with (go_at_call 209;refine (su _ (by omega) _).mono ?_;rintro e w' ⟨rfl,rfl⟩)
  go_ret;exact ⟨aj hp.out.symm,rfl⟩
theorem jq (k:Nat) (h:k≤4) (w:World):
  Calls prog 211 #[.int .i64 (k:Int)] w fun e w'=>e=.returned (.int .i64 (fst k))∧w'=w:=by
 match k,h with
 | 0,_=>go_enter func211,ntmps211;go_wp2;go_ret;exact ⟨rfl,rfl⟩
 | 1,_=>go_enter func211,ntmps211;go_wp2;go_ret;exact ⟨rfl,rfl⟩
 | 2,_=>go_enter func211,ntmps211;go_wp2;go_ret;exact ⟨rfl,rfl⟩
 | 3,_=>go_enter func211,ntmps211;go_wp2;go_ret;exact ⟨rfl,rfl⟩
 | 4,_=>go_enter func211,ntmps211;go_wp2;go_ret;exact ⟨rfl,rfl⟩
theorem K3 (v:Int) (w:World):
  Calls prog 210 #[.int .i64 v] w fun e w'=>e=.returned (.int .i64 (K4 v))∧w'=w:=by
 by_cases h:0≤v∧v<85
 ·obtain ⟨h0,h1⟩:=h;go_enter func210,ntmps210;go_wp2_with (go_at_call 209;refine (fA _ (by omega) (by omega) _).mono ?_;rintro e w' ⟨rfl,rfl⟩)
  go_loop [3] (fun t=>∃k:Nat,k≤3∧fst k≤v∧t=.int .i64 k) (fun t=>4 - (intOf t).toNat)
  case atStart=>exact ⟨0,by omega,by simpa [fst] using h0,rfl⟩
  case round=>
   obtain ⟨k,hk,hf,rfl⟩:=hrel;by_cases hc:fst ((k:Int)+1)≤v
   ·go_wp2_with (go_at_call 211;refine (jq (k+1) (by omega) _).mono ?_;rintro e w' ⟨rfl,rfl⟩)
    go_round
    case rel=>exact ⟨k+1,by simp only [fst] at hc;omega,by simpa using hc,by go_num⟩
    case measure=>simp [intOf];omega
   ·go_wp2_with (go_at_call 211;refine (jq (k+1) (by omega) _).mono ?_;rintro e w' ⟨rfl,rfl⟩)
    go_ret;exact ⟨aj (by simp only [fst,K4] at *;omega),rfl⟩
 ·have hp:Hid (K4 v=-1):=by show K4 v=-1;simp only [K4];repeat' split;all_goals omega
  go_enter func210,ntmps210;go_wp2_with (go_at_call 209;refine (su _ (by omega) _).mono ?_;rintro e w' ⟨rfl,rfl⟩)
  go_ret;exact ⟨aj hp.out.symm,rfl⟩
theorem n9 (v:Int) (h0:0≤v) (h1:v<85) (w:World):
  Calls prog 127 #[.int .i64 v] w fun e w'=>e=.returned (.bool true)∧w'=w:=by
 go_enter func127,ntmps127;go_wp2
 go_ret;exact ⟨rfl,rfl⟩
theorem vG (v:Int) (h:v<0∨85≤v) (w:World):
  Calls prog 127 #[.int .i64 v] w fun e w'=>e=.returned (.bool false)∧w'=w:=by
 by_cases h0:0≤v
 ·have h1:decide (v<85)=false:=by simp;omega
  clear h;go_enter func127,ntmps127;go_wp2
  go_ret;exact ⟨ae (by first | rfl | exact h1),rfl⟩
 ·clear h;go_enter func127,ntmps127;go_wp2
  go_ret;exact ⟨rfl,rfl⟩
theorem rV (v:Int) (w:World):
  Calls prog 50 #[.int .i64 v] w fun e w'=>e=.returned (.int .i64 (ue v))∧w'=w:=by
 by_cases h0:0≤v
 ·by_cases h1:v<64
  ·go_enter func50,ntmps50;go_wp2
   go_ret;exact ⟨aj (kf h0 h1).symm,rfl⟩
  ·have hp:Hid (ue v=-1):=wD (by omega);go_enter func50,ntmps50;go_wp2
   go_ret;exact ⟨aj hp.out.symm,rfl⟩
 ·have hp:Hid (ue v=-1):=wD (by omega);go_enter func50,ntmps50;go_wp2
  go_ret;exact ⟨aj hp.out.symm,rfl⟩
theorem Fp (v i:Int) (w:World):
  Calls prog 46 #[.int .i64 v,.int .i64 i] w fun e w'=>e=.returned (.int .i64 (LP v i))∧w'=w:=by
 by_cases h0:0≤v
 ·by_cases h1:v<21
  ·by_cases h2:0≤i
   ·by_cases h3:i<4
    ·go_enter func46,ntmps46;go_wp2
     go_ret;exact ⟨aj (uV h0 h1 h2 h3).symm,rfl⟩
    ·have hp:Hid (LP v i=-1):=pN (by omega);go_enter func46,ntmps46;go_wp2
     go_ret;exact ⟨aj hp.out.symm,rfl⟩
   ·have hp:Hid (LP v i=-1):=pN (by omega);go_enter func46,ntmps46;go_wp2
    go_ret;exact ⟨aj hp.out.symm,rfl⟩
  ·have hp:Hid (LP v i=-1):=pN (by omega);go_enter func46,ntmps46;go_wp2
   go_ret;exact ⟨aj hp.out.symm,rfl⟩
 ·have hp:Hid (LP v i=-1):=pN (by omega);go_enter func46,ntmps46;go_wp2
  go_ret;exact ⟨aj hp.out.symm,rfl⟩
theorem pB (v i:Int) (h0:0≤v) (h1:v<21) (h2:0≤i) (h3:i<4) (w:World):
  Calls prog 46 #[.int .i64 v,.int .i64 i] w fun e w'=>e=.returned (.int .i64 (4 * v+1+i))∧w'=w:=by
 rw [←uV h0 h1 h2 h3];exact Fp v i w
theorem sY (v:Int) (w:World):
  Calls prog 87 #[.int .i64 v] w fun e w'=>e=.returned (.int .i64 (par v))∧w'=w:=by
 by_cases h0:1≤v
 ·by_cases h1:v<85
  ·have hp:Hid (par v=(v - 1)/4):=Al h0 h1;go_enter func87,ntmps87;go_wp2
   go_loop [3,4] (fun p _=>∃k:Nat,k≤20∧4 * (k:Int)+1≤v∧p=.int .i64 k) (fun p _=>21 - (intOf p).toNat)
   case atStart=>exact ⟨0,by omega,by omega,rfl⟩
   case round=>
    obtain ⟨k,hk,hf,rfl⟩:=hrel;go_wp2
    go_loop [4] (fun i=>∃j:Nat,j≤4∧4 * (k:Int)+1+j≤v∧i=.int .i64 j) (fun i=>4 - (intOf i).toNat)
    case atStart=>exact ⟨0,by omega,by omega,rfl⟩
    case round=>
     obtain ⟨j,hj,hg,rfl⟩:=hrel;by_cases hlt:j<4
     ·by_cases heq:4 * (k:Int)+1+j=v
      ·have hb:(4 * (k:Int)+1+j==v)=true:=by simpa using heq
       have hq:Hid ((k:Int)=par v):=by show (k:Int)=par v;rw [hp.out];omega
       clear heq;go_wp2_with (go_at_call 46;refine (pB _ _ (by omega) (by omega) (by omega) (by omega) _).mono ?_;rintro e w' ⟨rfl,rfl⟩)
       go_ret;exact ⟨aj hq.out,rfl⟩
      ·have hb:(4 * (k:Int)+1+j==v)=false:=by simpa using heq
       go_wp2_with (go_at_call 46;refine (pB _ _ (by omega) (by omega) (by omega) (by omega) _).mono ?_;rintro e w' ⟨rfl,rfl⟩)
       go_round
       case rel=>exact ⟨j+1,by omega,by omega,by go_num⟩
       case measure=>simp [intOf];omega
     ·go_wp2
      go_round
      case rel=>exact ⟨k+1,by omega,by omega,by go_num⟩
      case measure=>simp [intOf];omega
  ·have hp:Hid (par v=-1):=Oi (by omega);go_enter func87,ntmps87;go_wp2
   go_ret;exact ⟨aj hp.out.symm,rfl⟩
 ·have hp:Hid (par v=-1):=Oi (by omega);go_enter func87,ntmps87;go_wp2
  go_ret;exact ⟨aj hp.out.symm,rfl⟩
theorem GF (s:Int) (h0:0≤s) (h1:s<64) (w:World):
  Calls prog 212 #[.int .i64 s] w fun e w'=>e=.returned (.tuple #[.agg #[.int .u8 (s/16),.int .u8 (s/4%4),.int .u8 (s%4)],.bool true])∧Below w.heap.size w w':=by
 go_enter func212,ntmps212;go_wp2_with (go_at_call 213;refine (wF _ (by omega) (by omega) _).mono ?_;rintro e w' ⟨rfl,rfl⟩)
 refine wp_loop_rounds 4 ?_;rw [rounds_succ];go_wp2
 rw [rounds_succ];go_wp2
 rw [rounds_succ];go_wp2
 rw [rounds_succ];go_wp2
 refine bodyPost_ret (v:=.tuple #[.agg #[.int .u8 (s/16),.int .u8 (s/4%4),.int .u8 (s%4)],.bool true]) ?_ rfl ⟨rfl,?_⟩
 ·simp [results,results212,go_sem,RD _ (show 0≤s/16 by omega) (show s/16<64 by omega),RD _ (show 0≤s/4 by omega) (show s/4<64 by omega),RD _ h0 h1];omega
 ·exact ((Below.refl _ _).alloc (Nat.le_refl _) _).alloc (by simp) _
theorem oq (v i:Int) (h0:0≤v) (h1:v<21) (h2:0≤i) (h3:i<4) (w:World):
  Calls prog 154 #[.int .i64 v,.int .i64 i] w fun e w'=>e=.returned (.int .i64 (4 * v+1+i))∧w'=w:=by
 rw [←uV h0 h1 h2 h3];exact LN v i w
theorem acP (x y z:Value) (w:World):(Instr.index 302 (.agg #[x,y,z]) (.int .i64 0)).run prog w=.ok x w:=by kernel_rfl
theorem acO (x y z:Value) (w:World):(Instr.index 302 (.agg #[x,y,z]) (.int .i64 1)).run prog w=.ok y w:=by kernel_rfl
theorem acN (x y z:Value) (w:World):(Instr.index 302 (.agg #[x,y,z]) (.int .i64 2)).run prog w=.ok z w:=by kernel_rfl
theorem abM {W w1:World} (hb:Below W.heap.size W w1):(∀b o,b<W.heap.size→w1.cell? ⟨b,o,none⟩=W.cell? ⟨b,o,none⟩)∧(∀b o,b<W.heap.size→w1.frozen? ⟨b,o,none⟩=W.frozen? ⟨b,o,none⟩):=
 ⟨fun b o h=>hb.cell (p:=⟨b,o,none⟩) h,fun b o h=>hb.frozen (p:=⟨b,o,none⟩) h⟩
theorem Od (s:Int) (h0:0≤s) (h1:s<64) (w:World):
  Calls prog 156 #[.int .i64 s] w fun e w'=>e=.returned (.tuple #[.agg #[.int .i64 (5+s/4),.int .i64 (1+s/16),.int .i64 0],.bool true])∧Below w.heap.size w w':=by
 go_enter func156,ntmps156;go_wp2_with fail
 refine (GF _ h0 h1 _).mono ?_;rintro e w1 ⟨rfl,hb⟩;obtain ⟨hc,hf⟩:=abM hb;have hz:w.heap.size<w1.heap.size:=by have:=hb.size;simp at this;omega
 have i0:=fun w=>acP (.int .u8 (s/16)) (.int .u8 (s/4%4)) (.int .u8 (s%4)) w
 have i1:=fun w=>acO (.int .u8 (s/16)) (.int .u8 (s/4%4)) (.int .u8 (s%4)) w
 have i2:=fun w=>acN (.int .u8 (s/16)) (.int .u8 (s/4%4)) (.int .u8 (s%4)) w
 go_wp2_with fail
 refine wp_loop_rounds 4 ?_;rw [rounds_succ];go_wp2_with (go_at_call 154;refine (oq _ _ (by omega) (by omega) (by omega) (by omega) _).mono ?_;rintro e w' ⟨rfl,rfl⟩)
 rw [rounds_succ];go_wp2_with (go_at_call 154;refine (oq _ _ (by omega) (by omega) (by omega) (by omega) _).mono ?_;rintro e w' ⟨rfl,rfl⟩)
 rw [rounds_succ];go_wp2_with (go_at_call 154;refine (oq _ _ (by omega) (by omega) (by omega) (by omega) _).mono ?_;rintro e w' ⟨rfl,rfl⟩)
 rw [rounds_succ];go_wp2
 refine bodyPost_ret (v:=.tuple #[.agg #[.int .i64 (5+s/4),.int .i64 (1+s/16),.int .i64 0],.bool true]) ?_ rfl ⟨rfl,?_⟩
 ·simp [results,results156,go_sem,hc,hz];omega
 ·have hb0:Below w.heap.size w w1:=((Below.refl _ _).alloc (Nat.le_refl _) _).trans (hb.mono (by simp));exact ((((hb0.setCell (by simp) _).setCell (by simp) _).setCell (by simp) _).alloc (by simp;omega) _).alloc (by simp;omega) _
theorem qp {v k:Int} (h:K4 v=k) (w:World):
  Calls prog 210 #[.int .i64 v] w fun e w'=>e=.returned (.int .i64 k)∧w'=w:=by rw [←h];exact K3 v w
theorem Zj (w:World):Calls prog 211 #[.int .i64 0] w fun e w'=>e=.returned (.int .i64 0)∧w'=w:=jq 0 (by omega) w
theorem Zi (w:World):Calls prog 211 #[.int .i64 1] w fun e w'=>e=.returned (.int .i64 1)∧w'=w:=jq 1 (by omega) w
theorem Zh (w:World):Calls prog 211 #[.int .i64 2] w fun e w'=>e=.returned (.int .i64 5)∧w'=w:=jq 2 (by omega) w
theorem Zg (w:World):Calls prog 211 #[.int .i64 3] w fun e w'=>e=.returned (.int .i64 21)∧w'=w:=jq 3 (by omega) w
theorem Ys (w:World):
  Calls prog 155 #[.int .i64 0] w fun e w'=>e=.returned (.int .u64 (sj 0))∧w'=w:=by
 rw [OS];go_enter func155,ntmps155;go_wp2_with (first | (go_at_call 209;refine (fA _ (by omega) (by omega) _).mono ?_;rintro e w' ⟨rfl,rfl⟩) | (go_at_call 210;refine (qp (show K4 0=0 by decide) _).mono ?_;rintro e w' ⟨rfl,rfl⟩) | (go_at_call 211;refine (Zj _).mono ?_;rintro e w' ⟨rfl,rfl⟩))
 go_ret;exact ⟨rfl,rfl⟩
theorem Yr (v:Int) (h0:1≤v) (h1:v<5) (w:World):
  Calls prog 155 #[.int .i64 v] w fun e w'=>e=.returned (.int .u64 (sj v))∧w'=w:=by
 go_enter func155,ntmps155;go_wp2_with (first | (go_at_call 209;refine (fA _ (by omega) (by omega) _).mono ?_;rintro e w' ⟨rfl,rfl⟩) | (go_at_call 210;refine (qp (acK h0 h1) _).mono ?_;rintro e w' ⟨rfl,rfl⟩) | (go_at_call 211;refine (Zi _).mono ?_;rintro e w' ⟨rfl,rfl⟩))
 go_ret;exact ⟨aj (TU h0 h1),rfl⟩
theorem Yq (v:Int) (h0:5≤v) (h1:v<21) (w:World):
  Calls prog 155 #[.int .i64 v] w fun e w'=>e=.returned (.int .u64 (sj v))∧w'=w:=by
 go_enter func155,ntmps155;go_wp2_with (first | (go_at_call 209;refine (fA _ (by omega) (by omega) _).mono ?_;rintro e w' ⟨rfl,rfl⟩) | (go_at_call 210;refine (qp (acJ h0 h1) _).mono ?_;rintro e w' ⟨rfl,rfl⟩) | (go_at_call 211;refine (Zh _).mono ?_;rintro e w' ⟨rfl,rfl⟩))
 go_ret;exact ⟨aj (TT h0 h1),rfl⟩
theorem Yp (v:Int) (h0:21≤v) (h1:v<85) (w:World):
  Calls prog 155 #[.int .i64 v] w fun e w'=>e=.returned (.int .u64 (sj v))∧w'=w:=by
 go_enter func155,ntmps155;go_wp2_with (first | (go_at_call 209;refine (fA _ (by omega) (by omega) _).mono ?_;rintro e w' ⟨rfl,rfl⟩) | (go_at_call 210;refine (qp (O0 h0 h1) _).mono ?_;rintro e w' ⟨rfl,rfl⟩) | (go_at_call 211;refine (Zg _).mono ?_;rintro e w' ⟨rfl,rfl⟩))
 go_ret;exact ⟨aj (TR h0 h1),rfl⟩
theorem wo (v:Int) (w:World):
  Calls prog 155 #[.int .i64 v] w fun e w'=>e=.returned (.int .u64 (sj v))∧w'=w:=by
 by_cases h:0≤v∧v<85
 ·by_cases h1:v<1
  ·obtain rfl:v=0:=by omega
   exact Ys w
  ·by_cases h2:v<5
   ·exact Yr v (by omega) h2 w
   ·by_cases h3:v<21
    ·exact Yq v (by omega) h3 w
    ·exact Yp v (by omega) h.2 w
 ·have hp:Hid (sj v=0):=Ym (by omega);go_enter func155,ntmps155;go_wp2_with (go_at_call 209;refine (su _ (by omega) _).mono ?_;rintro e w' ⟨rfl,rfl⟩)
  go_ret;exact ⟨aj hp.out.symm,rfl⟩
theorem L0 (X:Int) (h0:0≤X) (h1:X<18446744073709551616) (w:World):
  Calls prog 144 #[.int .u64 X] w fun e w'=>e=.returned (.int .u32 (eV X 21))∧w'=w:=by
 go_enter func144,ntmps144;go_wp2
 go_loop [3,4,5] (fun m _ v=>∃k:Nat,k≤21∧m=.int .u32 (eV X k)∧v=.int .i64 k) (fun _ _ v=>21 - (intOf v).toNat)
 case atStart=>exact ⟨0,by omega,rfl,rfl⟩
 case round=>
  obtain ⟨k,hk,rfl,rfl⟩:=hrel;by_cases hlt:k<21
  ·have hit:(bits .and .u64 (sj k) X !=0)=km X k 64:=IQ k X h0 h1;cases hh:km X k 64
   ·rw [hh] at hit;have HR:Hid (eV X (k+1)=eV X k):=by show eV X (k+1)=eV X k;simp [eV,hh]
    clear hh;go_wp2_with (go_at_call 155;refine (wo _ _).mono ?_;rintro e w' ⟨rfl,rfl⟩)
    go_round
    case rel=>exact ⟨k+1,by omega,by rw [HR.out],by go_num⟩
    case measure=>simp [intOf];omega
   ·rw [hh] at hit;have HR:Hid (eV X (k+1)=eV X k+2^k):=by show eV X (k+1)=eV X k+2^k;simp [eV,hh]
    clear hh;go_wp2_with (go_at_call 155;refine (wo _ _).mono ?_;rintro e w' ⟨rfl,rfl⟩)
    go_round
    case rel=>exact ⟨k+1,by omega,by rw [HR.out,TJ _ k hlt (xq X k).1 (xq X k).2],by go_num⟩
    case measure=>simp [intOf];omega
  ·obtain rfl:k=21:=by omega
   go_wp2
   go_ret;exact ⟨rfl,rfl⟩
theorem pC (v u:Int) (w:World):
  Calls prog 85 #[.int .i64 v,.int .i64 u] w fun e w'=>e=.returned (.bool (bc v u))∧w'=w:=by
 by_cases h:0≤v∧v<85
 ·obtain ⟨h0,h1⟩:=h;by_cases h:0≤u∧u<85
  ·obtain ⟨h2,h3⟩:=h;go_enter func85,ntmps85;go_wp2_with (go_at_call 127;refine (n9 _ (by omega) (by omega) _).mono ?_;rintro e w' ⟨rfl,rfl⟩)
   go_loop [1] (fun b=>∃x:Int,0≤x∧x<85∧Hid (bc v x=bc v u)∧b=.int .i64 x) (fun b=>(intOf b).toNat)
   case atStart=>exact ⟨u,h2,h3,rfl,rfl⟩
   case round=>
    obtain ⟨x,hx0,hx1,hm,rfl⟩:=hrel;by_cases hlt:v<x
    ·have hp:=Oj (v:=x) (by omega) hx1;have hq:Hid (bc v (par x)=bc v u):=by show bc v (par x)=bc v u;rw [←Br h0 hlt hx1,hm.out]
     go_wp2_with (go_at_call 87;refine (sY _ _).mono ?_;rintro e w' ⟨rfl,rfl⟩)
     go_round
     case rel=>exact ⟨par x,by omega,by omega,hq,rfl⟩
     case measure=>simp [intOf];omega
    ·have hq:Hid ((x==v)=bc v u):=by show (x==v)=bc v u;rw [←hm.out,uX hx0 (by omega) h1]
     go_wp2
     go_ret;exact ⟨ae hq.out,rfl⟩
  ·have hp:Hid (bc v u=false):=nH (jy (by omega));have hN:Hid (∀w,Calls prog 127 #[.int .i64 u] w fun e w'=>e=.returned (.bool false)∧w'=w):=vG u (by omega);clear h;go_enter func85,ntmps85;go_wp2_with fail
   refine (n9 _ h0 h1 _).mono ?_;rintro e w' ⟨rfl,rfl⟩;go_wp2_with fail
   refine (hN.out _).mono ?_;rintro e w' ⟨rfl,rfl⟩;go_wp2
   go_ret;exact ⟨ae hp.out.symm,rfl⟩
 ·have hp:Hid (bc v u=false):=JJ (jy (by omega));go_enter func85,ntmps85;go_wp2_with (go_at_call 127;refine (vG _ (by omega) _).mono ?_;rintro e w' ⟨rfl,rfl⟩)
  go_ret;exact ⟨ae hp.out.symm,rfl⟩
theorem mH (v:Int) (h0:1≤v) (h1:v<85) (w:World):
  Calls prog 87 #[.int .i64 v] w fun e w'=>e=.returned (.int .i64 ((v - 1)/4))∧w'=w:=by
 rw [←Al h0 h1];exact sY v w
theorem yN (v:Int) (h0:0≤v) (h1:v<64) (w:World):
  Calls prog 50 #[.int .i64 v] w fun e w'=>e=.returned (.int .i64 (21+v))∧w'=w:=by
 rw [←kf h0 h1];exact rV v w
theorem KL (s:Int) (h0:0≤s) (h1:s<64) (w:World):
  Calls prog 49 #[.int .i64 s] w fun e w'=>e=.returned (.tuple #[.agg #[.int .i64 (5+s/4),.int .i64 (1+s/16),.int .i64 0],.bool true])∧Below w.heap.size w w':=by
 go_enter func49,ntmps49;go_wp2_with (go_at_call 50;refine (yN _ (by omega) (by omega) _).mono ?_;rintro e w' ⟨rfl,rfl⟩)
 refine wp_loop_rounds 4 ?_;rw [rounds_succ];go_wp2_with (go_at_call 87;refine (mH _ (by omega) (by omega) _).mono ?_;rintro e w' ⟨rfl,rfl⟩)
 rw [rounds_succ];go_wp2_with (go_at_call 87;refine (mH _ (by omega) (by omega) _).mono ?_;rintro e w' ⟨rfl,rfl⟩)
 rw [rounds_succ];go_wp2_with (go_at_call 87;refine (mH _ (by omega) (by omega) _).mono ?_;rintro e w' ⟨rfl,rfl⟩)
 rw [rounds_succ];go_wp2
 refine bodyPost_ret (v:=.tuple #[.agg #[.int .i64 (5+s/4),.int .i64 (1+s/16),.int .i64 0],.bool true]) ?_ rfl ⟨rfl,?_⟩
 ·simp [results,results49,go_sem];omega
 ·exact ((Below.refl _ _).alloc (Nat.le_refl _) _).alloc (by simp) _
end Go.Proofs.YtanaapfobpgibaaGreatDoor.Sh
