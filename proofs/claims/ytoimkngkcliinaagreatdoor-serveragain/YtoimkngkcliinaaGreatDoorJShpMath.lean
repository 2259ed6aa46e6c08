/- ShpMath, ShpMath2, ShpMath3, ShpA, ShpB, ShpC, ShpD, ShpE, ShpG, ShpJ, ShpH, joined. -/
import Derived.WalkKit
import Derived.ProofKit
import Derived.Laws.Bits64
import Derived.Laws.BitsAllLaws
import Derived.Test.YtoimkngkcliinaaGreatDoorChecked
import Derived.Below
import Derived.ChangeKeysEq
namespace Go.Proofs.YtoimkngkcliinaaGreatDoor.Sh
open Go.RowKit
theorem ret_int {k:IntKind} {a b:Int} (h:a=b):Ending.returned (.int k a)=.returned (.int k b):=by rw [h]
theorem ret_bool {a b:Bool} (h:a=b):Ending.returned (.bool a)=.returned (.bool b):=by rw [h]
def par (v:Int):Int:=if 1≤v∧v<85 then (v - 1)/4 else -1
def chd (v i:Int):Int:=if 0≤v∧v<21∧0≤i∧i<4 then 4 * v+1+i else -1
def lef (s:Int):Int:=if 0≤s∧s<64 then 21+s else -1
def slo (v:Int):Int:=if 21≤v∧v<85 then v - 21 else -1
def lev (v:Int):Int:=if v<0 then -1 else if v<1 then 0 else if v<5 then 1 else if v<21 then 2 else if v<85 then 3 else -1
def fst (k:Int):Int:=if k<1 then 0 else if k<2 then 1 else if k<3 then 5 else if k<4 then 21 else 85
def nodeB (v:Int):Bool:=decide (0≤v∧v<85)
theorem par_yes {v:Int} (h0:1≤v) (h1:v<85):par v=(v - 1)/4:=by simp [par,h0,h1]
theorem par_no {v:Int} (h:v<1∨85≤v):par v=-1:=by simp [par];omega
theorem chd_yes {v i:Int} (h0:0≤v) (h1:v<21) (h2:0≤i) (h3:i<4):chd v i=4 * v+1+i:=by simp [chd,h0,h1,h2,h3]
theorem chd_no {v i:Int} (h:v<0∨21≤v∨i<0∨4≤i):chd v i=-1:=by simp [chd];omega
theorem lef_yes {v:Int} (h0:0≤v) (h1:v<64):lef v=21+v:=by simp [lef,h0,h1]
theorem lef_no {v:Int} (h:v<0∨64≤v):lef v=-1:=by simp [lef];omega
theorem slo_yes {v:Int} (h0:21≤v) (h1:v<85):slo v=v - 21:=by simp [slo,h0,h1]
theorem slo_no {v:Int} (h:v<21∨85≤v):slo v=-1:=by simp [slo];omega
theorem nodeB_no {v:Int} (h:v<0∨85≤v):nodeB v=false:=by simp [nodeB];omega
theorem and3u_64:∀n:Fin 64,bits .and .u8 (n.val:Int) 3=(n.val:Int)%4:=by decide+kernel
theorem and3u (x:Int) (h0:0≤x) (h1:x<64):bits .and .u8 x 3=x%4:=by
 have h:=and3u_64 ⟨x.toNat,by omega⟩
 rwa [Int.toNat_of_nonneg h0] at h
theorem lev_leaf {v:Int} (h0:21≤v) (h1:v<85):lev v=3:=by
 simp only [lev];repeat' split;all_goals omega
def belB (v w:Int):Bool:=nodeB v&&nodeB w&&(v==w||v==par w||v==par (par w)||v==par (par (par w)))
def mskTo (v:Int):Nat→Int
 | 0=>0
 | n+1=>mskTo v n+if belB v (21+n) then 2^n else 0
def msk (v:Int):Int:=mskTo v 64
theorem mskTo_bd (v:Int):∀n,0≤mskTo v n∧mskTo v n<2^n
 | 0=>by simp [mskTo]
 | n+1=>by
  have:=mskTo_bd v n;simp only [mskTo,Int.pow_succ];split <;> omega
theorem belB_no {v w:Int} (h:nodeB v=false):belB v w=false:=by simp [belB,h]
theorem belB_no' {v w:Int} (h:nodeB w=false):belB v w=false:=by simp [belB,h]
theorem mskTo_no {v:Int} (h:nodeB v=false):∀n,mskTo v n=0
 | 0=>rfl
 | n+1=>by simp [mskTo,mskTo_no h n,belB_no h]
theorem msk_no {v:Int} (h:v<0∨85≤v):msk v=0:=mskTo_no (nodeB_no h) 64
/-- The four levels: a mask is a row of ones, shifted. -/
theorem msk3_all:∀n:Fin 64,IntKind.u64.wrap (2^((n.val:Int)).toNat)=msk (21+n.val):=by decide+kernel
theorem msk2_all:∀n:Fin 16,IntKind.u64.wrap (15 * 2^((n.val:Int) * 4).toNat)=msk (5+n.val):=by decide+kernel
theorem msk1_all:∀n:Fin 4,IntKind.u64.wrap (65535 * 2^((n.val:Int) * 16).toNat)=msk (1+n.val):=by decide+kernel
theorem msk0_all:msk 0=18446744073709551615:=by decide+kernel
theorem msk3_of {v:Int} (h0:21≤v) (h1:v<85):IntKind.u64.wrap (2^(v - 21).toNat)=msk v:=by
 have h:=msk3_all ⟨(v - 21).toNat,by omega⟩;simp only [Int.toNat_of_nonneg (show 0≤v - 21 by omega)] at h;rw [h];congr 1;omega
theorem msk2_of {v:Int} (h0:5≤v) (h1:v<21):IntKind.u64.wrap (15 * 2^((v - 5) * 4).toNat)=msk v:=by
 have h:=msk2_all ⟨(v - 5).toNat,by omega⟩;simp only [Int.toNat_of_nonneg (show 0≤v - 5 by omega)] at h;rw [h];congr 1;omega
theorem msk1_of {v:Int} (h0:1≤v) (h1:v<5):IntKind.u64.wrap (65535 * 2^((v - 1) * 16).toNat)=msk v:=by
 have h:=msk1_all ⟨(v - 1).toNat,by omega⟩;simp only [Int.toNat_of_nonneg (show 0≤v - 1 by omega)] at h;rw [h];congr 1;omega
theorem lev1 {v:Int} (h0:1≤v) (h1:v<5):lev v=1:=by simp only [lev];repeat' split;all_goals omega
theorem lev2 {v:Int} (h0:5≤v) (h1:v<21):lev v=2:=by simp only [lev];repeat' split;all_goals omega
theorem par_bd {v:Int} (h0:1≤v) (h1:v<85):0≤par v∧par v<v:=by rw [par_yes h0 h1];omega
def hasB (X:Int) (s:Nat):Bool:=X/2^s%2==1
def hitTo (X v:Int):Nat→Bool
 | 0=>false
 | n+1=>hitTo X v n||(hasB X n&&belB v (21+n))
def abvTo (X:Int):Nat→Int
 | 0=>0
 | n+1=>abvTo X n+if hitTo X n 64 then 2^n else 0
theorem abvTo_bd (X:Int):∀n,0≤abvTo X n∧abvTo X n<2^n
 | 0=>by simp [abvTo]
 | n+1=>by
  have:=abvTo_bd X n;simp only [abvTo,Int.pow_succ];split <;> omega
theorem pow_le_20:∀n:Fin 21,(2:Int)^n.val≤1048576:=by decide+kernel
theorem pow_le21 (n:Nat) (h:n<21):(2:Int)^n≤1048576:=pow_le_20 ⟨n,h⟩
theorem below_all:∀v w:Fin 85,(v.val<w.val→belB v.val w.val=belB v.val (par w.val))∧(w.val≤v.val→belB v.val w.val=((w.val:Int)==v.val)):=by decide+kernel
theorem belB_up {v w:Int} (h0:0≤v) (h1:v<w) (h2:w<85):belB v w=belB v (par w):=by
 have h:=(below_all ⟨v.toNat,by omega⟩ ⟨w.toNat,by omega⟩).1 (by simp;omega)
 simpa [Int.toNat_of_nonneg h0,Int.toNat_of_nonneg (show 0≤w by omega)] using h
theorem belB_at {v w:Int} (h0:0≤w) (h1:w≤v) (h2:v<85):belB v w=(w==v):=by
 have h:=(below_all ⟨v.toNat,by omega⟩ ⟨w.toNat,by omega⟩).2 (by simp;omega)
 simpa [Int.toNat_of_nonneg h0,Int.toNat_of_nonneg (show 0≤v by omega)] using h
/-- The mask's bits. -/
def mN (v:Int):Nat→Nat
 | 0=>0
 | n+1=>(if belB v (21+n) then 2^n else 0)+mN v n
theorem mN_lt (v:Int):∀n,mN v n<2^n
 | 0=>by simp [mN]
 | n+1=>by
  have:=mN_lt v n;simp only [mN,Nat.pow_succ];split <;> omega
theorem mskTo_mN (v:Int):∀n,mskTo v n=(mN v n:Int)
 | 0=>rfl
 | n+1=>by
  simp only [mskTo,mN,mskTo_mN v n];split <;> push_cast <;> omega
theorem mN_bit (v:Int):∀n i,(mN v n).testBit i=(decide (i<n)&&belB v (21+i))
 | 0,i=>by simp [mN]
 | n+1,i=>by
  simp only [mN];have ih:=mN_bit v n;have hl:=mN_lt v n;by_cases hb:belB v (21+n)=true
  ·rw [if_pos hb];rcases Nat.lt_trichotomy i n with h | h | h
   ·rw [Nat.testBit_two_pow_add_gt h,ih i];have:i<n+1:=by omega
    simp [h,this]
   ·subst h;rw [Nat.testBit_two_pow_add_eq,Nat.testBit_lt_two_pow hl];simp [hb]
   ·rw [Nat.testBit_lt_two_pow (Nat.lt_of_lt_of_le (show 2^n+mN v n<2^(n+1) by rw [Nat.pow_succ];omega) (Nat.pow_le_pow_right (by omega) h))];have:¬i<n+1:=by omega
    simp [this]
  ·rw [if_neg hb,Nat.zero_add,ih i];rcases Nat.lt_trichotomy i n with h | h | h
   ·have:i<n+1:=by omega
    simp [h,this]
   ·subst h;simp at hb;simp [hb]
   ·have h1:¬i<n:=by omega
    have h2:¬i<n+1:=by omega
    simp [h1,h2]
theorem hasB_bit (X:Nat) (s:Nat):hasB (X:Int) s=X.testBit s:=by
 rw [Nat.testBit_eq_decide_div_mod_eq,hasB];have e:((X:Int)/2^s%2)=((X/2^s%2:Nat):Int):=by push_cast;rfl
 rw [e];generalize X/2^s%2=q;rw [Bool.eq_iff_iff,beq_iff_eq,decide_eq_true_eq];omega
theorem hitTo_iff (X v:Int):∀n,hitTo X v n=true↔∃s,s<n∧hasB X s=true∧belB v (21+s)=true
 | 0=>by simp [hitTo]
 | n+1=>by
  simp only [hitTo,Bool.or_eq_true,Bool.and_eq_true,hitTo_iff X v n];constructor
  ·rintro (⟨s,h,a,b⟩ | ⟨a,b⟩)
   ·exact ⟨s,by omega,a,b⟩
   ·exact ⟨n,by omega,a,b⟩
  ·rintro ⟨s,h,a,b⟩;by_cases e:s=n
   ·subst e;exact .inr ⟨a,b⟩
   ·exact .inl ⟨s,by omega,a,b⟩
theorem hit_and (v X:Int) (h0:0≤X) (h1:X<18446744073709551616):(bits .and .u64 (msk v) X !=0)=hitTo X v 64:=by
 obtain ⟨x,rfl⟩:=Int.eq_ofNat_of_zero_le h0;have hx:x<18446744073709551616:=by omega
 have hm:=mN_lt v 64;rw [msk,mskTo_mN,u64_and_nat _ _ (by simpa using hm) hx];rw [Bool.eq_iff_iff,hitTo_iff];constructor
 ·intro h;have hne:mN v 64&&& x≠0:=by intro e;rw [e] at h;simp at h
  obtain ⟨i,hi⟩:=Nat.exists_testBit_of_ne_zero hne;rw [Nat.testBit_and,mN_bit] at hi;simp only [Bool.and_eq_true,decide_eq_true_eq] at hi;exact ⟨i,hi.1.1,by rw [hasB_bit];exact hi.2,hi.1.2⟩
 ·rintro ⟨s,hs,ha,hb⟩;rw [hasB_bit] at ha;have:(mN v 64&&& x).testBit s=true:=by rw [Nat.testBit_and,mN_bit];simp [hs,ha,hb]
  have hne:mN v 64&&& x≠0:=by intro e;rw [e] at this;simp at this
  simp;omega
theorem or_unit (A:Int) (k:Nat) (hk:k<21) (h0:0≤A) (h1:A<2^k):bits .or .u32 A (2^k%4294967296)=A+2^k:=by
 have hp:=pow_le21 k hk;obtain ⟨a,rfl⟩:=Int.eq_ofNat_of_zero_le h0;have hc:((2:Int)^k)=((2^k:Nat):Int):=by push_cast;rfl
 rw [hc] at hp h1 ⊢;rw [Int.emod_eq_of_lt (by omega) (by omega),u32_or_nat _ _ (by omega) (by omega),Nat.or_comm,nat_join k (2^k) a (by simp) (by omega)];omega
theorem msk_bd (v:Int):0≤msk v∧msk v<18446744073709551616:=mskTo_bd v 64
theorem isNode_yes (v:Int) (h0:0≤v) (h1:v<85) (w:World):
  Calls Tryz.prog 230 #[.int .i64 v] w fun e w'=>e=.returned (.bool true)∧w'=w:=by
 go_enter Tryz.func230,Tryz.ntmps230;go_wp2
 go_ret;exact ⟨rfl,rfl⟩
theorem isNode_no (v:Int) (h:v<0∨85≤v) (w:World):
  Calls Tryz.prog 230 #[.int .i64 v] w fun e w'=>e=.returned (.bool false)∧w'=w:=by
 by_cases h0:0≤v
 ·have h1:decide (v<85)=false:=by simp;omega
  clear h;go_enter Tryz.func230,Tryz.ntmps230;go_wp2
  go_ret;exact ⟨ret_bool (by first | rfl | exact h1),rfl⟩
 ·clear h;go_enter Tryz.func230,Tryz.ntmps230;go_wp2
  go_ret;exact ⟨rfl,rfl⟩
theorem isInner_yes (v:Int) (h0:0≤v) (h1:v<21) (w:World):
  Calls Tryz.prog 232 #[.int .i64 v] w fun e w'=>e=.returned (.bool true)∧w'=w:=by
 go_enter Tryz.func232,Tryz.ntmps232;go_wp2
 go_ret;exact ⟨rfl,rfl⟩
theorem isInner_no (v:Int) (h:v<0∨21≤v) (w:World):
  Calls Tryz.prog 232 #[.int .i64 v] w fun e w'=>e=.returned (.bool false)∧w'=w:=by
 by_cases h0:0≤v
 ·have h1:decide (v<21)=false:=by simp;omega
  clear h;go_enter Tryz.func232,Tryz.ntmps232;go_wp2
  go_ret;exact ⟨ret_bool (by first | rfl | exact h1),rfl⟩
 ·clear h;go_enter Tryz.func232,Tryz.ntmps232;go_wp2
  go_ret;exact ⟨rfl,rfl⟩
theorem child_any (v i:Int) (w:World):
  Calls Tryz.prog 259 #[.int .i64 v,.int .i64 i] w fun e w'=>e=.returned (.int .i64 (chd v i))∧w'=w:=by
 by_cases h:0≤v∧v<21
 ·obtain ⟨h0,h1⟩:=h;by_cases h2:0≤i
  ·by_cases h3:i<4
   ·go_enter Tryz.func259,Tryz.ntmps259;go_wp2_with (go_at_call 232;refine (isInner_yes _ (by omega) (by omega) _).mono ?_;rintro e w' ⟨rfl,rfl⟩)
    go_ret;exact ⟨ret_int (by rw [chd_yes h0 h1 h2 h3];omega),rfl⟩
   ·have hp:Hid (chd v i=-1):=chd_no (by omega);go_enter Tryz.func259,Tryz.ntmps259;go_wp2_with (go_at_call 232;refine (isInner_yes _ (by omega) (by omega) _).mono ?_;rintro e w' ⟨rfl,rfl⟩)
    go_ret;exact ⟨ret_int hp.out.symm,rfl⟩
  ·have hp:Hid (chd v i=-1):=chd_no (by omega);go_enter Tryz.func259,Tryz.ntmps259;go_wp2_with (go_at_call 232;refine (isInner_yes _ (by omega) (by omega) _).mono ?_;rintro e w' ⟨rfl,rfl⟩)
   go_ret;exact ⟨ret_int hp.out.symm,rfl⟩
 ·have hp:Hid (chd v i=-1):=chd_no (by omega);go_enter Tryz.func259,Tryz.ntmps259;go_wp2_with (go_at_call 232;refine (isInner_no _ (by omega) _).mono ?_;rintro e w' ⟨rfl,rfl⟩)
  go_ret;exact ⟨ret_int hp.out.symm,rfl⟩
theorem isSlot_yes (v:Int) (h0:0≤v) (h1:v<64) (w:World):
  Calls Tryz.prog 177 #[.int .i64 v] w fun e w'=>e=.returned (.bool true)∧w'=w:=by
 go_enter Tryz.func177,Tryz.ntmps177;go_wp2
 go_ret;exact ⟨rfl,rfl⟩
theorem isSlot_no (v:Int) (h:v<0∨64≤v) (w:World):
  Calls Tryz.prog 177 #[.int .i64 v] w fun e w'=>e=.returned (.bool false)∧w'=w:=by
 by_cases h0:0≤v
 ·have h1:decide (v<64)=false:=by simp;omega
  clear h;go_enter Tryz.func177,Tryz.ntmps177;go_wp2
  go_ret;exact ⟨ret_bool (by first | rfl | exact h1),rfl⟩
 ·clear h;go_enter Tryz.func177,Tryz.ntmps177;go_wp2
  go_ret;exact ⟨rfl,rfl⟩
theorem leaf_any (v:Int) (w:World):
  Calls Tryz.prog 118 #[.int .i64 v] w fun e w'=>e=.returned (.int .i64 (lef v))∧w'=w:=by
 by_cases h:0≤v∧v<64
 ·obtain ⟨h0,h1⟩:=h;go_enter Tryz.func118,Tryz.ntmps118;go_wp2_with (go_at_call 177;refine (isSlot_yes _ (by omega) (by omega) _).mono ?_;rintro e w' ⟨rfl,rfl⟩)
  go_ret;exact ⟨ret_int (lef_yes h0 h1).symm,rfl⟩
 ·have hp:Hid (lef v=-1):=lef_no (by omega);go_enter Tryz.func118,Tryz.ntmps118;go_wp2_with (go_at_call 177;refine (isSlot_no _ (by omega) _).mono ?_;rintro e w' ⟨rfl,rfl⟩)
  go_ret;exact ⟨ret_int hp.out.symm,rfl⟩
theorem slot_any (v:Int) (w:World):
  Calls Tryz.prog 175 #[.int .i64 v] w fun e w'=>e=.returned (.int .i64 (slo v))∧w'=w:=by
 by_cases h:0≤v∧v<85
 ·obtain ⟨h0,h1⟩:=h;by_cases h2:v<21
  ·have hp:Hid (slo v=-1):=slo_no (by omega);go_enter Tryz.func175,Tryz.ntmps175;go_wp2_with (first | (go_at_call 230;refine (isNode_yes _ (by omega) (by omega) _).mono ?_;rintro e w' ⟨rfl,rfl⟩) | (go_at_call 232;refine (isInner_yes _ (by omega) (by omega) _).mono ?_;rintro e w' ⟨rfl,rfl⟩))
   go_ret;exact ⟨ret_int hp.out.symm,rfl⟩
  ·go_enter Tryz.func175,Tryz.ntmps175;go_wp2_with (first | (go_at_call 230;refine (isNode_yes _ (by omega) (by omega) _).mono ?_;rintro e w' ⟨rfl,rfl⟩) | (go_at_call 232;refine (isInner_no _ (by omega) _).mono ?_;rintro e w' ⟨rfl,rfl⟩))
   go_ret;exact ⟨ret_int (slo_yes (by omega) (by omega)).symm,rfl⟩
 ·have hp:Hid (slo v=-1):=slo_no (by omega);go_enter Tryz.func175,Tryz.ntmps175;go_wp2_with (go_at_call 230;refine (isNode_no _ (by omega) _).mono ?_;rintro e w' ⟨rfl,rfl⟩)
  go_ret;exact ⟨ret_int hp.out.symm,rfl⟩
theorem first_any (k:Nat) (h:k≤4) (w:World):
  Calls Tryz.prog 231 #[.int .i64 (k:Int)] w fun e w'=>e=.returned (.int .i64 (fst k))∧w'=w:=by
 match k,h with
 | 0,_=>go_enter Tryz.func231,Tryz.ntmps231;go_wp2;go_ret;exact ⟨rfl,rfl⟩
 | 1,_=>go_enter Tryz.func231,Tryz.ntmps231;go_wp2;go_ret;exact ⟨rfl,rfl⟩
 | 2,_=>go_enter Tryz.func231,Tryz.ntmps231;go_wp2;go_ret;exact ⟨rfl,rfl⟩
 | 3,_=>go_enter Tryz.func231,Tryz.ntmps231;go_wp2;go_ret;exact ⟨rfl,rfl⟩
 | 4,_=>go_enter Tryz.func231,Tryz.ntmps231;go_wp2;go_ret;exact ⟨rfl,rfl⟩
theorem level_any (v:Int) (w:World):
  Calls Tryz.prog 174 #[.int .i64 v] w fun e w'=>e=.returned (.int .i64 (lev v))∧w'=w:=by
 by_cases h:0≤v∧v<85
 ·obtain ⟨h0,h1⟩:=h;go_enter Tryz.func174,Tryz.ntmps174;go_wp2_with (go_at_call 230;refine (isNode_yes _ (by omega) (by omega) _).mono ?_;rintro e w' ⟨rfl,rfl⟩)
  go_loop [3] (fun t=>∃k:Nat,k≤3∧fst k≤v∧t=.int .i64 k) (fun t=>4 - (intOf t).toNat)
  case atStart=>exact ⟨0,by omega,by simpa [fst] using h0,rfl⟩
  case round=>
   obtain ⟨k,hk,hf,rfl⟩:=hrel;by_cases hc:fst ((k:Int)+1)≤v
   ·go_wp2_with (go_at_call 231;refine (first_any (k+1) (by omega) _).mono ?_;rintro e w' ⟨rfl,rfl⟩)
    go_round
    case rel=>exact ⟨k+1,by simp only [fst] at hc;omega,by simpa using hc,by go_num⟩
    case measure=>simp [intOf];omega
   ·go_wp2_with (go_at_call 231;refine (first_any (k+1) (by omega) _).mono ?_;rintro e w' ⟨rfl,rfl⟩)
    go_ret;exact ⟨ret_int (by simp only [fst,lev] at *;omega),rfl⟩
 ·have hp:Hid (lev v=-1):=by show lev v=-1;simp only [lev];repeat' split;all_goals omega
  go_enter Tryz.func174,Tryz.ntmps174;go_wp2_with (go_at_call 230;refine (isNode_no _ (by omega) _).mono ?_;rintro e w' ⟨rfl,rfl⟩)
  go_ret;exact ⟨ret_int hp.out.symm,rfl⟩
theorem rNode_yes (v:Int) (h0:0≤v) (h1:v<85) (w:World):
  Calls Tryz.prog 73 #[.int .i64 v] w fun e w'=>e=.returned (.bool true)∧w'=w:=by
 go_enter Tryz.func73,Tryz.ntmps73;go_wp2
 go_ret;exact ⟨rfl,rfl⟩
theorem rNode_no (v:Int) (h:v<0∨85≤v) (w:World):
  Calls Tryz.prog 73 #[.int .i64 v] w fun e w'=>e=.returned (.bool false)∧w'=w:=by
 by_cases h0:0≤v
 ·have h1:decide (v<85)=false:=by simp;omega
  clear h;go_enter Tryz.func73,Tryz.ntmps73;go_wp2
  go_ret;exact ⟨ret_bool (by first | rfl | exact h1),rfl⟩
 ·clear h;go_enter Tryz.func73,Tryz.ntmps73;go_wp2
  go_ret;exact ⟨rfl,rfl⟩
theorem rLeaf_any (v:Int) (w:World):
  Calls Tryz.prog 98 #[.int .i64 v] w fun e w'=>e=.returned (.int .i64 (lef v))∧w'=w:=by
 by_cases h0:0≤v
 ·by_cases h1:v<64
  ·go_enter Tryz.func98,Tryz.ntmps98;go_wp2
   go_ret;exact ⟨ret_int (lef_yes h0 h1).symm,rfl⟩
  ·have hp:Hid (lef v=-1):=lef_no (by omega);go_enter Tryz.func98,Tryz.ntmps98;go_wp2
   go_ret;exact ⟨ret_int hp.out.symm,rfl⟩
 ·have hp:Hid (lef v=-1):=lef_no (by omega);go_enter Tryz.func98,Tryz.ntmps98;go_wp2
  go_ret;exact ⟨ret_int hp.out.symm,rfl⟩
theorem rChild_any (v i:Int) (w:World):
  Calls Tryz.prog 94 #[.int .i64 v,.int .i64 i] w fun e w'=>e=.returned (.int .i64 (chd v i))∧w'=w:=by
 by_cases h0:0≤v
 ·by_cases h1:v<21
  ·by_cases h2:0≤i
   ·by_cases h3:i<4
    ·go_enter Tryz.func94,Tryz.ntmps94;go_wp2
     go_ret;exact ⟨ret_int (chd_yes h0 h1 h2 h3).symm,rfl⟩
    ·have hp:Hid (chd v i=-1):=chd_no (by omega);go_enter Tryz.func94,Tryz.ntmps94;go_wp2
     go_ret;exact ⟨ret_int hp.out.symm,rfl⟩
   ·have hp:Hid (chd v i=-1):=chd_no (by omega);go_enter Tryz.func94,Tryz.ntmps94;go_wp2
    go_ret;exact ⟨ret_int hp.out.symm,rfl⟩
  ·have hp:Hid (chd v i=-1):=chd_no (by omega);go_enter Tryz.func94,Tryz.ntmps94;go_wp2
   go_ret;exact ⟨ret_int hp.out.symm,rfl⟩
 ·have hp:Hid (chd v i=-1):=chd_no (by omega);go_enter Tryz.func94,Tryz.ntmps94;go_wp2
  go_ret;exact ⟨ret_int hp.out.symm,rfl⟩
theorem rChild_yes (v i:Int) (h0:0≤v) (h1:v<21) (h2:0≤i) (h3:i<4) (w:World):
  Calls Tryz.prog 94 #[.int .i64 v,.int .i64 i] w fun e w'=>e=.returned (.int .i64 (4 * v+1+i))∧w'=w:=by
 rw [←chd_yes h0 h1 h2 h3];exact rChild_any v i w
theorem rParent_any (v:Int) (w:World):
  Calls Tryz.prog 148 #[.int .i64 v] w fun e w'=>e=.returned (.int .i64 (par v))∧w'=w:=by
 by_cases h0:1≤v
 ·by_cases h1:v<85
  ·have hp:Hid (par v=(v - 1)/4):=par_yes h0 h1;go_enter Tryz.func148,Tryz.ntmps148;go_wp2
   go_loop [3,4] (fun p _=>∃k:Nat,k≤20∧4 * (k:Int)+1≤v∧p=.int .i64 k) (fun p _=>21 - (intOf p).toNat)
   case atStart=>exact ⟨0,by omega,by omega,rfl⟩
   case round=>
    obtain ⟨k,hk,hf,rfl⟩:=hrel;go_wp2
    go_loop [4] (fun i=>∃j:Nat,j≤4∧4 * (k:Int)+1+j≤v∧i=.int .i64 j) (fun i=>4 - (intOf i).toNat)
    case atStart=>exact ⟨0,by omega,by omega,rfl⟩
    case round=>
     obtain ⟨j,hj,hg,rfl⟩:=hrel;by_cases hlt:j<4
     ·by_cases heq:4 * (k:Int)+1+j=v
      ·have hb:(4 * (k:Int)+1+j==v)=true:=by simpa using heq
       have hq:Hid ((k:Int)=par v):=by show (k:Int)=par v;rw [hp.out];omega
       clear heq;go_wp2_with (go_at_call 94;refine (rChild_yes _ _ (by omega) (by omega) (by omega) (by omega) _).mono ?_;rintro e w' ⟨rfl,rfl⟩)
       go_ret;exact ⟨ret_int hq.out,rfl⟩
      ·have hb:(4 * (k:Int)+1+j==v)=false:=by simpa using heq
       go_wp2_with (go_at_call 94;refine (rChild_yes _ _ (by omega) (by omega) (by omega) (by omega) _).mono ?_;rintro e w' ⟨rfl,rfl⟩)
       go_round
       case rel=>exact ⟨j+1,by omega,by omega,by go_num⟩
       case measure=>simp [intOf];omega
     ·go_wp2
      go_round
      case rel=>exact ⟨k+1,by omega,by omega,by go_num⟩
      case measure=>simp [intOf];omega
  ·have hp:Hid (par v=-1):=par_no (by omega);go_enter Tryz.func148,Tryz.ntmps148;go_wp2
   go_ret;exact ⟨ret_int hp.out.symm,rfl⟩
 ·have hp:Hid (par v=-1):=par_no (by omega);go_enter Tryz.func148,Tryz.ntmps148;go_wp2
  go_ret;exact ⟨ret_int hp.out.symm,rfl⟩
set_option maxHeartbeats 400000 in
theorem digits_yes (s:Int) (h0:0≤s) (h1:s<64) (w:World):
  Calls Tryz.prog 309 #[.int .i64 s] w fun e w'=>e=.returned (.tuple #[.agg #[.int .u8 (s/16),.int .u8 (s/4%4),.int .u8 (s%4)],.bool true])∧Below w.heap.size w w':=by
 go_enter Tryz.func309,Tryz.ntmps309;go_wp2_with (go_at_call 177;refine (isSlot_yes _ (by omega) (by omega) _).mono ?_;rintro e w' ⟨rfl,rfl⟩)
 refine wp_loop_rounds 4 ?_;rw [rounds_succ];go_wp2;rw [rounds_succ];go_wp2;rw [rounds_succ];go_wp2;rw [rounds_succ];go_wp2;refine bodyPost_ret (v:=.tuple #[.agg #[.int .u8 (s/16),.int .u8 (s/4%4),.int .u8 (s%4)],.bool true]) ?_ rfl ⟨rfl,?_⟩
 ·simp [results,Tryz.results309,go_sem,and3u _ (show 0≤s/16 by omega) (show s/16<64 by omega),and3u _ (show 0≤s/4 by omega) (show s/4<64 by omega),and3u _ h0 h1];omega
 ·exact ((Below.refl _ _).alloc (Nat.le_refl _) _).alloc (by simp) _
theorem child_yes (v i:Int) (h0:0≤v) (h1:v<21) (h2:0≤i) (h3:i<4) (w:World):
  Calls Tryz.prog 259 #[.int .i64 v,.int .i64 i] w fun e w'=>e=.returned (.int .i64 (4 * v+1+i))∧w'=w:=by
 rw [←chd_yes h0 h1 h2 h3];exact child_any v i w
theorem idx0 (x y z:Value) (w:World):(Instr.index 407 (.agg #[x,y,z]) (.int .i64 0)).run Tryz.prog w=.ok x w:=by kernel_rfl
theorem idx1 (x y z:Value) (w:World):(Instr.index 407 (.agg #[x,y,z]) (.int .i64 1)).run Tryz.prog w=.ok y w:=by kernel_rfl
theorem idx2 (x y z:Value) (w:World):(Instr.index 407 (.agg #[x,y,z]) (.int .i64 2)).run Tryz.prog w=.ok z w:=by kernel_rfl
theorem bcell {W w1:World} (hb:Below W.heap.size W w1):(∀b o,b<W.heap.size→w1.cell? ⟨b,o,none⟩=W.cell? ⟨b,o,none⟩)∧(∀b o,b<W.heap.size→w1.frozen? ⟨b,o,none⟩=W.frozen? ⟨b,o,none⟩):=
 ⟨fun b o h=>hb.cell (p:=⟨b,o,none⟩) h,fun b o h=>hb.frozen (p:=⟨b,o,none⟩) h⟩
set_option maxHeartbeats 1000000 in
theorem path_yes (s:Int) (h0:0≤s) (h1:s<64) (w:World):
  Calls Tryz.prog 261 #[.int .i64 s] w fun e w'=>e=.returned (.tuple #[.agg #[.int .i64 (5+s/4),.int .i64 (1+s/16),.int .i64 0],.bool true])∧Below w.heap.size w w':=by
 go_enter Tryz.func261,Tryz.ntmps261;go_wp2_with fail
 refine (digits_yes _ h0 h1 _).mono ?_;rintro e w1 ⟨rfl,hb⟩;obtain ⟨hc,hf⟩:=bcell hb;have hz:w.heap.size<w1.heap.size:=by have:=hb.size;simp at this;omega
 have i0:=fun w=>idx0 (.int .u8 (s/16)) (.int .u8 (s/4%4)) (.int .u8 (s%4)) w
 have i1:=fun w=>idx1 (.int .u8 (s/16)) (.int .u8 (s/4%4)) (.int .u8 (s%4)) w
 have i2:=fun w=>idx2 (.int .u8 (s/16)) (.int .u8 (s/4%4)) (.int .u8 (s%4)) w
 go_wp2_with fail
 refine wp_loop_rounds 4 ?_;rw [rounds_succ];go_wp2_with (go_at_call 259;refine (child_yes _ _ (by omega) (by omega) (by omega) (by omega) _).mono ?_;rintro e w' ⟨rfl,rfl⟩);rw [rounds_succ];go_wp2_with (go_at_call 259;refine (child_yes _ _ (by omega) (by omega) (by omega) (by omega) _).mono ?_;rintro e w' ⟨rfl,rfl⟩);rw [rounds_succ];go_wp2_with (go_at_call 259;refine (child_yes _ _ (by omega) (by omega) (by omega) (by omega) _).mono ?_;rintro e w' ⟨rfl,rfl⟩);rw [rounds_succ];go_wp2;refine bodyPost_ret (v:=.tuple #[.agg #[.int .i64 (5+s/4),.int .i64 (1+s/16),.int .i64 0],.bool true]) ?_ rfl ⟨rfl,?_⟩
 ·simp [results,Tryz.results261,go_sem,hc,hz];omega
 ·have hb0:Below w.heap.size w w1:=((Below.refl _ _).alloc (Nat.le_refl _) _).trans (hb.mono (by simp));exact ((((hb0.setCell (by simp) _).setCell (by simp) _).setCell (by simp) _).alloc (by simp;omega) _).alloc (by simp;omega) _
theorem level_of {v k:Int} (h:lev v=k) (w:World):
  Calls Tryz.prog 174 #[.int .i64 v] w fun e w'=>e=.returned (.int .i64 k)∧w'=w:=by rw [←h];exact level_any v w
theorem first0 (w:World):Calls Tryz.prog 231 #[.int .i64 0] w fun e w'=>e=.returned (.int .i64 0)∧w'=w:=first_any 0 (by omega) w
theorem first1 (w:World):Calls Tryz.prog 231 #[.int .i64 1] w fun e w'=>e=.returned (.int .i64 1)∧w'=w:=first_any 1 (by omega) w
theorem first2 (w:World):Calls Tryz.prog 231 #[.int .i64 2] w fun e w'=>e=.returned (.int .i64 5)∧w'=w:=first_any 2 (by omega) w
theorem first3 (w:World):Calls Tryz.prog 231 #[.int .i64 3] w fun e w'=>e=.returned (.int .i64 21)∧w'=w:=first_any 3 (by omega) w
theorem mask_0 (w:World):
  Calls Tryz.prog 260 #[.int .i64 0] w fun e w'=>e=.returned (.int .u64 (msk 0))∧w'=w:=by
 rw [msk0_all];go_enter Tryz.func260,Tryz.ntmps260;go_wp2_with (first | (go_at_call 230;refine (isNode_yes _ (by omega) (by omega) _).mono ?_;rintro e w' ⟨rfl,rfl⟩) | (go_at_call 174;refine (level_of (show lev 0=0 by decide) _).mono ?_;rintro e w' ⟨rfl,rfl⟩) | (go_at_call 231;refine (first0 _).mono ?_;rintro e w' ⟨rfl,rfl⟩))
 go_ret;exact ⟨rfl,rfl⟩
theorem mask_1 (v:Int) (h0:1≤v) (h1:v<5) (w:World):
  Calls Tryz.prog 260 #[.int .i64 v] w fun e w'=>e=.returned (.int .u64 (msk v))∧w'=w:=by
 go_enter Tryz.func260,Tryz.ntmps260;go_wp2_with (first | (go_at_call 230;refine (isNode_yes _ (by omega) (by omega) _).mono ?_;rintro e w' ⟨rfl,rfl⟩) | (go_at_call 174;refine (level_of (lev1 h0 h1) _).mono ?_;rintro e w' ⟨rfl,rfl⟩) | (go_at_call 231;refine (first1 _).mono ?_;rintro e w' ⟨rfl,rfl⟩))
 go_ret;exact ⟨ret_int (msk1_of h0 h1),rfl⟩
theorem mask_2 (v:Int) (h0:5≤v) (h1:v<21) (w:World):
  Calls Tryz.prog 260 #[.int .i64 v] w fun e w'=>e=.returned (.int .u64 (msk v))∧w'=w:=by
 go_enter Tryz.func260,Tryz.ntmps260;go_wp2_with (first | (go_at_call 230;refine (isNode_yes _ (by omega) (by omega) _).mono ?_;rintro e w' ⟨rfl,rfl⟩) | (go_at_call 174;refine (level_of (lev2 h0 h1) _).mono ?_;rintro e w' ⟨rfl,rfl⟩) | (go_at_call 231;refine (first2 _).mono ?_;rintro e w' ⟨rfl,rfl⟩))
 go_ret;exact ⟨ret_int (msk2_of h0 h1),rfl⟩
theorem mask_3 (v:Int) (h0:21≤v) (h1:v<85) (w:World):
  Calls Tryz.prog 260 #[.int .i64 v] w fun e w'=>e=.returned (.int .u64 (msk v))∧w'=w:=by
 go_enter Tryz.func260,Tryz.ntmps260;go_wp2_with (first | (go_at_call 230;refine (isNode_yes _ (by omega) (by omega) _).mono ?_;rintro e w' ⟨rfl,rfl⟩) | (go_at_call 174;refine (level_of (lev_leaf h0 h1) _).mono ?_;rintro e w' ⟨rfl,rfl⟩) | (go_at_call 231;refine (first3 _).mono ?_;rintro e w' ⟨rfl,rfl⟩))
 go_ret;exact ⟨ret_int (msk3_of h0 h1),rfl⟩
theorem mask_any (v:Int) (w:World):
  Calls Tryz.prog 260 #[.int .i64 v] w fun e w'=>e=.returned (.int .u64 (msk v))∧w'=w:=by
 by_cases h:0≤v∧v<85
 ·by_cases h1:v<1
  ·obtain rfl:v=0:=by omega
   exact mask_0 w
  ·by_cases h2:v<5
   ·exact mask_1 v (by omega) h2 w
   ·by_cases h3:v<21
    ·exact mask_2 v (by omega) h3 w
    ·exact mask_3 v (by omega) h.2 w
 ·have hp:Hid (msk v=0):=msk_no (by omega);go_enter Tryz.func260,Tryz.ntmps260;go_wp2_with (go_at_call 230;refine (isNode_no _ (by omega) _).mono ?_;rintro e w' ⟨rfl,rfl⟩)
  go_ret;exact ⟨ret_int hp.out.symm,rfl⟩
theorem above_any (X:Int) (h0:0≤X) (h1:X<18446744073709551616) (w:World):
  Calls Tryz.prog 252 #[.int .u64 X] w fun e w'=>e=.returned (.int .u32 (abvTo X 21))∧w'=w:=by
 go_enter Tryz.func252,Tryz.ntmps252;go_wp2
 go_loop [3,4,5] (fun m _ v=>∃k:Nat,k≤21∧m=.int .u32 (abvTo X k)∧v=.int .i64 k) (fun _ _ v=>21 - (intOf v).toNat)
 case atStart=>exact ⟨0,by omega,rfl,rfl⟩
 case round=>
  obtain ⟨k,hk,rfl,rfl⟩:=hrel;by_cases hlt:k<21
  ·have hit:(bits .and .u64 (msk k) X !=0)=hitTo X k 64:=hit_and k X h0 h1;cases hh:hitTo X k 64
   ·rw [hh] at hit;have HR:Hid (abvTo X (k+1)=abvTo X k):=by show abvTo X (k+1)=abvTo X k;simp [abvTo,hh]
    clear hh;go_wp2_with (go_at_call 260;refine (mask_any _ _).mono ?_;rintro e w' ⟨rfl,rfl⟩)
    go_round
    case rel=>exact ⟨k+1,by omega,by rw [HR.out],by go_num⟩
    case measure=>simp [intOf];omega
   ·rw [hh] at hit;have HR:Hid (abvTo X (k+1)=abvTo X k+2^k):=by show abvTo X (k+1)=abvTo X k+2^k;simp [abvTo,hh]
    clear hh;go_wp2_with (go_at_call 260;refine (mask_any _ _).mono ?_;rintro e w' ⟨rfl,rfl⟩)
    go_round
    case rel=>exact ⟨k+1,by omega,by rw [HR.out,or_unit _ k hlt (abvTo_bd X k).1 (abvTo_bd X k).2],by go_num⟩
    case measure=>simp [intOf];omega
  ·obtain rfl:k=21:=by omega
   go_wp2
   go_ret;exact ⟨rfl,rfl⟩
theorem rBelow_any (v u:Int) (w:World):
  Calls Tryz.prog 147 #[.int .i64 v,.int .i64 u] w fun e w'=>e=.returned (.bool (belB v u))∧w'=w:=by
 by_cases h:0≤v∧v<85
 ·obtain ⟨h0,h1⟩:=h;by_cases h:0≤u∧u<85
  ·obtain ⟨h2,h3⟩:=h;go_enter Tryz.func147,Tryz.ntmps147;go_wp2_with (go_at_call 73;refine (rNode_yes _ (by omega) (by omega) _).mono ?_;rintro e w' ⟨rfl,rfl⟩)
   go_loop [1] (fun b=>∃x:Int,0≤x∧x<85∧Hid (belB v x=belB v u)∧b=.int .i64 x) (fun b=>(intOf b).toNat)
   case atStart=>exact ⟨u,h2,h3,rfl,rfl⟩
   case round=>
    obtain ⟨x,hx0,hx1,hm,rfl⟩:=hrel;by_cases hlt:v<x
    ·have hp:=par_bd (v:=x) (by omega) hx1;have hq:Hid (belB v (par x)=belB v u):=by show belB v (par x)=belB v u;rw [←belB_up h0 hlt hx1,hm.out]
     go_wp2_with (go_at_call 148;refine (rParent_any _ _).mono ?_;rintro e w' ⟨rfl,rfl⟩)
     go_round
     case rel=>exact ⟨par x,by omega,by omega,hq,rfl⟩
     case measure=>simp [intOf];omega
    ·have hq:Hid ((x==v)=belB v u):=by show (x==v)=belB v u;rw [←hm.out,belB_at hx0 (by omega) h1]
     go_wp2
     go_ret;exact ⟨ret_bool hq.out,rfl⟩
  ·have hp:Hid (belB v u=false):=belB_no' (nodeB_no (by omega));have hN:Hid (∀w,Calls Tryz.prog 73 #[.int .i64 u] w fun e w'=>e=.returned (.bool false)∧w'=w):=rNode_no u (by omega);clear h;go_enter Tryz.func147,Tryz.ntmps147;go_wp2_with fail
   refine (rNode_yes _ h0 h1 _).mono ?_;rintro e w' ⟨rfl,rfl⟩;go_wp2_with fail
   refine (hN.out _).mono ?_;rintro e w' ⟨rfl,rfl⟩;go_wp2
   go_ret;exact ⟨ret_bool hp.out.symm,rfl⟩
 ·have hp:Hid (belB v u=false):=belB_no (nodeB_no (by omega));go_enter Tryz.func147,Tryz.ntmps147;go_wp2_with (go_at_call 73;refine (rNode_no _ (by omega) _).mono ?_;rintro e w' ⟨rfl,rfl⟩)
  go_ret;exact ⟨ret_bool hp.out.symm,rfl⟩
end Go.Proofs.YtoimkngkcliinaaGreatDoor.Sh
