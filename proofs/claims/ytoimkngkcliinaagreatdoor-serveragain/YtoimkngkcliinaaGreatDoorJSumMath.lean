/- SumMath, SumA, SumB, SumD, joined. -/
import Derived.Laws.BitsAllLaws
import Derived.Test.YtoimkngkcliinaaGreatDoorChecked
import Derived.WalkKit
import Derived.ProofKit
import Derived.Below
import Derived.WalkSpells
import Derived.Laws.IdiomStrings
import Derived.Deep.RegionHeld3
import Derived.Deep.AppendLies
import Derived.Laws.OwnMore
namespace Go.Proofs.YtoimkngkcliinaaGreatDoor.Sm
set_option linter.unusedVariables false
set_option maxRecDepth 4000
def crcPoly:Nat:=3988292384
/- One bit falls out. -/
def bit1 (r:Nat):Nat:=if r%2=1 then (r/2)^^^crcPoly else r/2
def bits8 (r:Nat):Nat:=bit1 (bit1 (bit1 (bit1 (bit1 (bit1 (bit1 (bit1 r)))))))
def bitsN:Nat→Nat→Nat
 | 0,r=>r
 | k+1,r=>bitsN k (bit1 r)
def byte1 (r:Nat) (b:UInt8):Nat:=bits8 (r^^^b.toNat)
def reg (r:Nat):List UInt8→Nat
 | []=>r
 | b::l=>reg (byte1 r b) l
theorem bitsN_succ (k r:Nat):bitsN (k+1) r=bit1 (bitsN k r):=by
 induction k generalizing r with
 | zero=>rfl
 | succ k ih=>exact ih (bit1 r)
theorem bits8_N (r:Nat):bits8 r=bitsN 8 r:=rfl
theorem bit1_lt {r:Nat} (h:r<4294967296):bit1 r<4294967296:=by
 unfold bit1;split
 ·exact Nat.xor_lt_two_pow (n:=32) (by omega) (by decide)
 ·omega
theorem bits8_lt {r:Nat} (h:r<4294967296):bits8 r<4294967296:=
 bit1_lt (bit1_lt (bit1_lt (bit1_lt (bit1_lt (bit1_lt (bit1_lt (bit1_lt h)))))))
theorem bitsN_lt:∀(k:Nat) {r:Nat},r<4294967296→bitsN k r<4294967296
 | 0,_,h=>h
 | k+1,_,h=>bitsN_lt k (bit1_lt h)
theorem xor_byte_lt {r:Nat} (h:r<4294967296) (b:UInt8):r^^^b.toNat<4294967296:=
 Nat.xor_lt_two_pow (n:=32) h (Nat.lt_of_lt_of_le b.toNat_lt (by decide))
theorem byte1_lt {r:Nat} (h:r<4294967296) (b:UInt8):byte1 r b<4294967296:=bits8_lt (xor_byte_lt h b)
theorem reg_lt:∀(l:List UInt8) {r:Nat},r<4294967296→reg r l<4294967296
 | [],_,h=>h
 | b::l,_,h=>reg_lt l (byte1_lt h b)
theorem reg_append (l m:List UInt8) (r:Nat):reg r (l++m)=reg (reg r l) m:=by
 induction l generalizing r with
 | nil=>rfl
 | cons b l ih=>exact ih _
theorem bit1_small {z k:Nat} (hz:z<4294967296) (hk:k≤31) (h:bit1 z<2^k):z=2 * bit1 z:=by
 unfold bit1 at h ⊢;split at h
 ·exfalso
  have h31:(z/2^^^crcPoly).testBit 31=true:=by
   rw [Nat.testBit_xor];have e1:(z/2).testBit 31=false:=Nat.testBit_lt_two_pow (by omega);have e2:crcPoly.testBit 31=true:=by decide
   rw [e1,e2];rfl
  have:=Nat.ge_two_pow_of_testBit h31;have:2^k≤2^31:=Nat.pow_le_pow_right (by omega) hk;omega
 ·rename_i hne
  rw [if_neg hne];omega
/- All bits turned. -/
theorem turned (r:Nat) (h:r<4294967296):4294967295^^^r=4294967295 - r:=by
 have e:=Nat.testBit_two_pow_sub_succ (x:=r) (n:=32) h;apply Nat.eq_of_testBit_eq
 intro i;have e':4294967295 - r=2^32 - (r+1):=by omega
 rw [e',e,Nat.testBit_xor];have e3:(4294967295:Nat).testBit i=decide (i<32):=Nat.testBit_two_pow_sub_one 32 i;rw [e3];by_cases hi:i<32
 ·simp [hi]
 ·have h32:(2:Nat)^32≤2^i:=Nat.pow_le_pow_right (by omega) (by omega);have:r.testBit i=false:=Nat.testBit_lt_two_pow (Nat.lt_of_lt_of_le (show r<2^32 by omega) h32);simp [hi,this]
def ext (n:Nat) (l:List UInt8):Nat:=4294967295 - reg (4294967295 - n) l
theorem ext_lt (n:Nat) (l:List UInt8):ext n l<4294967296:=by unfold ext;omega
open Go.RowKit
theorem ret_int {k:IntKind} {a b:Int} (h:a=b):Ending.returned (.int k a)=.returned (.int k b):=by rw [h]
theorem bit1_odd {z:Nat} (h:z%2=1):bit1 z=z/2^^^3988292384:=by unfold bit1 crcPoly;rw [if_pos h]
theorem bit1_even {z:Nat} (h:z%2=0):bit1 z=z/2:=by unfold bit1;rw [if_neg (by omega)]
theorem take_snoc (s:ByteArray) (k:Nat) (h:k<s.size):s.data.toList.take (k+1)=s.data.toList.take k++[s[k]]:=by
 rw [List.take_succ_eq_append_getElem (by simpa using h)];rfl
theorem reg_snoc (r:Nat) (s:ByteArray) (k:Nat) (h:k<s.size):reg r (s.data.toList.take (k+1))=byte1 (reg r (s.data.toList.take k)) s[k]:=by
 rw [take_snoc s k h,reg_append];rfl
theorem xorPoly (y:Nat) (h:y<4294967296):bits .xor .u32 (y:Int) 3988292384=((y^^^3988292384:Nat):Int):=u32_xor_nat y 3988292384 h (by decide)
set_option maxHeartbeats 400000 in
theorem take_any (r:Nat) (b:UInt8) (w:World) (hr:r<4294967296):Calls Tryz.prog 342 #[.int .u32 (r:Int),.int .u8 (b.toNat:Int)] w fun e w'=>e=.returned (.int .u32 ((byte1 r b:Nat):Int))∧w'=w:=by
 have hb:=b.toNat_lt;obtain ⟨x,hx⟩:∃x,r^^^b.toNat=x:=⟨_,rfl⟩;have e0:bits .xor .u32 (r:Int) (b.toNat:Int)=(x:Int):=by rw [u32_xor_nat r b.toNat hr (by omega),hx]
 have hx32:x<4294967296:=by rw [←hx];exact xor_byte_lt hr b
 have HX:Hid (byte1 r b=bitsN 8 x):=by unfold Hid byte1;rw [bits8_N,hx]
 clear hx;go_enter Tryz.func342,Tryz.ntmps342;go_wp2_with fail
 go_loop [0,10] (fun y i=>∃k:Nat,k≤8∧i=.int .i64 (k:Int)∧y=.int .u32 ((bitsN k x:Nat):Int)) (fun _ i=>8 - (intOf i).toNat)
 case atStart=>exact ⟨0,by omega,rfl,rfl⟩
 case round=>
  obtain ⟨k,hk,rfl,rfl⟩:=hrel;by_cases hk8:k<8
  ·have k8:(k:Int)<8:=by omega
   have hz:=bitsN_lt k hx32;have hs:=bitsN_succ k x;obtain ⟨z,hz0⟩:∃z,bitsN k x=z:=⟨_,rfl⟩;rw [hz0] at hz hs ⊢;have HS:Hid (bitsN (k+1) x=bit1 z):=hs;clear hz0 hs e0
   have ea:bits .and .u32 (z:Int) 1=((z%2:Nat):Int):=by
    have:=u32_and_nat z 1 hz (by decide);rw [nat_mask1] at this;exact this
   obtain ⟨y,hy⟩:∃y,z/2=y:=⟨_,rfl⟩;have hy2:(z:Int)/2=(y:Int):=by omega
   have hy32:y<4294967296:=by omega
   have exo:=xorPoly y hy32;rcases Nat.mod_two_eq_zero_or_one z with h2 | h2
   ·rw [h2] at ea;have HE:Hid (bit1 z=y):=by unfold Hid;rw [bit1_even h2,hy]
    clear h2 hy;go_wp2_with fail
    go_round
    case rel=>exact ⟨k+1,by omega,by go_num,by rw [HS.out,HE.out]⟩
    case measure=>simp [intOf];omega
   ·rw [h2] at ea;have HE:Hid (bit1 z=y^^^3988292384):=by unfold Hid;rw [bit1_odd h2,hy]
    clear h2 hy;go_wp2_with fail
    go_round
    case rel=>exact ⟨k+1,by omega,by go_num,by rw [HS.out,HE.out]⟩
    case measure=>simp [intOf];omega
  ·have k8:decide ((k:Int)<8)=false:=by simp;omega
   obtain rfl:k=8:=by omega
   go_wp2_with fail
   go_ret;exact ⟨ret_int (by rw [HX.out]),rfl⟩
theorem turnU (n:Nat) (h:n<4294967296):bits .xor .u32 IntKind.u32.max (n:Int)=((4294967295 - n:Nat):Int):=by
 have e:IntKind.u32.max=((4294967295:Nat):Int):=by decide
 rw [e,u32_xor_nat 4294967295 n (by decide) h,turned n h]
set_option maxHeartbeats 400000 in
theorem ext_any (n:Nat) (s:ByteArray) (w:World) (hn:n<4294967296) (hs:s.size≤281474976710656):Calls Tryz.prog 317 #[.int .u32 (n:Int),.string s] w fun e w'=>e=.returned (.int .u32 ((ext n s.data.toList:Nat):Int))∧w'=w:=by
 have ht:=turnU n hn;obtain ⟨m,hm⟩:∃m,4294967295 - n=m:=⟨_,rfl⟩;have hm32:m<4294967296:=by omega
 have HM:Hid (4294967295 - n=m):=hm;rw [hm] at ht;clear hm;go_enter Tryz.func317,Tryz.ntmps317;go_wp2_with fail
 clear ht
 go_loop [5,11] (fun y i=>∃k:Nat,k≤s.size∧i=.int .i64 (k:Int)∧y=.int .u32 ((reg m (s.data.toList.take k):Nat):Int)) (fun _ i=>s.size - (intOf i).toNat)
 case atStart=>exact ⟨0,by omega,rfl,rfl⟩
 case round=>
  obtain ⟨k,hk,rfl,rfl⟩:=hrel;by_cases hlt:k<s.size
  ·have i2:(k:Int)<(s.size:Int):=by omega
   have hz:=reg_lt (s.data.toList.take k) hm32;have HS:Hid (reg m (s.data.toList.take (k+1))=byte1 (reg m (s.data.toList.take k)) s[k]):=reg_snoc m s k hlt;go_wp2_with fail
   refine (take_any _ s[k] _ hz).mono ?_;rintro e w' ⟨rfl,rfl⟩;go_wp2_with fail
   go_round
   case rel=>exact ⟨k+1,by omega,by go_num,by rw [HS.out]⟩
   case measure=>simp [intOf];omega
  ·have i2:decide ((k:Int)<(s.size:Int))=false:=by simp;omega
   obtain rfl:k=s.size:=by omega
   have hz:=reg_lt (s.data.toList.take s.size) hm32;have ht:=turnU _ hz;go_wp2_with fail
   go_ret;exact ⟨ret_int (by rw [List.take_of_length_le (by simp)];unfold ext;rw [HM.out]),rfl⟩
theorem sum_any (s:ByteArray) (w:World) (hs:s.size≤281474976710656):Calls Tryz.prog 268 #[.string s] w fun e w'=>e=.returned (.int .u32 ((ext 0 s.data.toList:Nat):Int))∧w'=w:=by
 go_enter Tryz.func268,Tryz.ntmps268;go_wp2_with fail
 refine (ext_any 0 s _ (by decide) hs).mono ?_;rintro e w' ⟨rfl,rfl⟩;go_wp2_with fail
 go_ret;exact ⟨rfl,rfl⟩
open Go.RowKit Go.Maps
def tx (l:List Nat):ByteArray:=⟨(l.map UInt8.ofNat).toArray⟩
theorem tx_size (l:List Nat):(tx l).size=l.length:=by simp [tx,ByteArray.size]
theorem conv_at (w:World) (g cap n:Nat) (l:List Nat) (hn:l.length=n) (hc:∀j (h:j<l.length),w.cell? ⟨g,j,none⟩=some (.int .u8 ((l[j]:Nat):Int))) (hlt:∀x∈l,x<256):(convert 226 9 (.slice (some ⟨g,0,none⟩) n cap)).run Tryz.prog w=.ok (.string (tx l)) w:=by
 subst hn
 have hc:=run_convert_bytes_back (P:=Tryz.prog) w 226 9 5 ⟨g,0,none⟩ cap (l.map UInt8.ofNat) Tryz.underlying226 Tryz.underlying5 Tryz.underlying9 (fun j hj=>by
   simp at hj;have e:((⟨g,0,none⟩:Addr).add j)=⟨g,j,none⟩:=by unfold Addr.add;split <;> simp_all
   rw [e,hc j hj];have hlt:=hlt l[j] (List.getElem_mem hj)
   simp [UInt8.toNat_ofNat'];omega)
 rw [List.length_map] at hc;exact hc
def b4 (n:Nat):List Nat:=[n/16777216,n/65536%256,n/256%256,n%256]
theorem b4_lt (n:Nat) (h:n<4294967296):∀x∈b4 n,x<256:=by intro x hx;simp [b4] at hx;omega
theorem conv_b4 (n:Nat) (h:n<4294967296) (w:World) (T:TypeId):(convert 226 9 (.slice (some ⟨w.heap.size,0,none⟩) 4 4)).run Tryz.prog (w.alloc (.cells #[.int .u8 ((n:Int)/16777216),.int .u8 ((n:Int)/65536%256),.int .u8 ((n:Int)/256%256),.int .u8 ((n:Int)%256)] T))=.ok (.string (tx (b4 n))) (w.alloc (.cells #[.int .u8 ((n:Int)/16777216),.int .u8 ((n:Int)/65536%256),.int .u8 ((n:Int)/256%256),.int .u8 ((n:Int)%256)] T)):=by
 refine conv_at _ w.heap.size 4 4 (b4 n) rfl ?_ (b4_lt n h);intro j hj;have hj4:j<4:=hj;have:j=0∨j=1∨j=2∨j=3:=by omega
 rcases this with rfl | rfl | rfl | rfl <;> simp [go_sem,b4]
set_option maxRecDepth 100000 in
set_option maxHeartbeats 400000 in
theorem bytes_any (n:Nat) (w:World) (hn:n<4294967296):Calls Tryz.prog 267 #[.int .u32 (n:Int)] w fun e w'=>e=.returned (.string (tx (b4 n)))∧Below w.heap.size w w':=by
 go_enter Tryz.func267,Tryz.ntmps267;go_wp2_with fail
 refine wp_loop_rounds 5 ?_;rw [rounds_succ];go_wp2_with fail;rw [rounds_succ];go_wp2_with fail;rw [rounds_succ];go_wp2_with fail;rw [rounds_succ];go_wp2_with fail;rw [rounds_succ];go_wp2_with fail;rw [conv_b4 n hn w _];go_wp2_with fail
 go_ret;exact ⟨rfl,(Below.refl _ _).alloc (Nat.le_refl _) _⟩
def dg (d:Nat):Nat:=if d<10 then 48+d else 87+d
def hx (n:Nat):List Nat:=[dg (n/268435456),dg (n/16777216%16),dg (n/1048576%16),dg (n/65536%16),dg (n/4096%16),dg (n/256%16),dg (n/16%16),dg (n%16)]
def hk (n:Nat):Nat→List Nat
 | 0=>[]
 | k+1=>dg (n/16^k%16)::hk n k
def u8b (l:List UInt8):List Value:=l.map fun b:UInt8=>Value.int .u8 (b.toNat:Int)
@[simp] theorem u8b_length (l:List UInt8):(u8b l).length=l.length:=by simp [u8b]
end Go.Proofs.YtoimkngkcliinaaGreatDoor.Sm
