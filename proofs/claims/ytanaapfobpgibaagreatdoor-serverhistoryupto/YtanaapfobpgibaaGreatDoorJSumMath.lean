/- SumMath, SumA, SumB, SumD, joined. -/
import Derived.Test.YtanaapfobpgibaaGreatDoorChecked
import Derived.ProofKit
import Derived.WalkSpells
import Derived.Deep.RegionHeld3
import Derived.Deep.AppendLies
open Go.Proofs.Tryz
set_option maxHeartbeats 400000
namespace Go.Proofs.YtanaapfobpgibaaGreatDoor.Sm
set_option linter.unusedVariables false
set_option maxRecDepth 4000
def uU:Nat:=3988292384
/- One bit falls out. -/
def jH (r:Nat):Nat:=if r%2=1 then (r/2)^^^uU else r/2
def Ro (r:Nat):Nat:=jH (jH (jH (jH (jH (jH (jH (jH r)))))))
def q7:Nat→Nat→Nat
 | 0,r=>r
 | k+1,r=>q7 k (jH r)
def xg (r:Nat) (b:UInt8):Nat:=Ro (r^^^b.toNat)
def Nz (r:Nat):List UInt8→Nat
 | []=>r
 | b::l=>Nz (xg r b) l
theorem GV (k r:Nat):q7 (k+1) r=jH (q7 k r):=by
 induction k generalizing r with
 | zero=>rfl
 | succ k ih=>exact ih (jH r)
theorem Vm (r:Nat):Ro r=q7 8 r:=rfl
theorem jd {r:Nat} (h:r<4294967296):jH r<4294967296:=by
 unfold jH;split
 ·exact Nat.xor_lt_two_pow (n:=32) (by omega) (by decide)
 ·omega
theorem Rn {r:Nat} (h:r<4294967296):Ro r<4294967296:=
 jd (jd (jd (jd (jd (jd (jd (jd h)))))))
theorem D2:∀(k:Nat) {r:Nat},r<4294967296→q7 k r<4294967296
 | 0,_,h=>h
 | k+1,_,h=>D2 k (jd h)
theorem sT {r:Nat} (h:r<4294967296) (b:UInt8):r^^^b.toNat<4294967296:=
 Nat.xor_lt_two_pow (n:=32) h (Nat.lt_of_lt_of_le b.toNat_lt (by decide))
theorem Q8 {r:Nat} (h:r<4294967296) (b:UInt8):xg r b<4294967296:=Rn (sT h b)
theorem Fb:∀(l:List UInt8) {r:Nat},r<4294967296→Nz r l<4294967296
 | [],_,h=>h
 | b::l,_,h=>Fb l (Q8 h b)
theorem Fc (l m:List UInt8) (r:Nat):Nz r (l++m)=Nz (Nz r l) m:=by
 induction l generalizing r with
 | nil=>rfl
 | cons b l ih=>exact ih _
theorem ZO {z k:Nat} (hz:z<4294967296) (hk:k≤31) (h:jH z<2^k):z=2 * jH z:=by
 unfold jH at h ⊢;split at h
 ·exfalso
  have h31:(z/2^^^uU).testBit 31=true:=by
   rw [Nat.testBit_xor];have e1:(z/2).testBit 31=false:=Nat.testBit_lt_two_pow (by omega);have e2:uU.testBit 31=true:=by decide
   rw [e1,e2];rfl
  have:=Nat.ge_two_pow_of_testBit h31;have:2^k≤2^31:=Nat.pow_le_pow_right (by omega) hk;omega
 ·rename_i hne
  rw [if_neg hne];omega
/- All bits turned. -/
theorem turned (r:Nat) (h:r<4294967296):4294967295^^^r=4294967295 - r:=by
 have e:=Nat.testBit_two_pow_sub_succ (x:=r) (n:=32) h;apply Nat.eq_of_testBit_eq
 intro i;have e':4294967295 - r=2^32 - (r+1):=by omega
 rw [e',e,Nat.testBit_xor];have e3:(4294967295:Nat).testBit i=decide (i<32):=Nat.testBit_two_pow_sub_one 32 i;rw [e3];by_cases hi:i<32
 ·simp [hi]
 ·have h32:(2:Nat)^32≤2^i:=Nat.pow_le_pow_right (by omega) (by omega);have:r.testBit i=false:=Nat.testBit_lt_two_pow (Nat.lt_of_lt_of_le (show r<2^32 by omega) h32);simp [hi,this]
def ext (n:Nat) (l:List UInt8):Nat:=4294967295 - Nz (4294967295 - n) l
theorem Zm (n:Nat) (l:List UInt8):ext n l<4294967296:=by unfold ext;omega
open Go.RowKit
theorem aj {k:IntKind} {a b:Int} (h:a=b):Ending.returned (.int k a)=.returned (.int k b):=by rw [h]
theorem Rp {z:Nat} (h:z%2=1):jH z=z/2^^^3988292384:=by unfold jH uU;rw [if_pos h]
theorem LW {z:Nat} (h:z%2=0):jH z=z/2:=by unfold jH;rw [if_neg (by omega)]
theorem eC (s:ByteArray) (k:Nat) (h:k<s.size):s.data.toList.take (k+1)=s.data.toList.take k++[s[k]]:=by
 rw [List.take_succ_eq_append_getElem (by simpa using h)];rfl
theorem Ny (r:Nat) (s:ByteArray) (k:Nat) (h:k<s.size):Nz r (s.data.toList.take (k+1))=xg (Nz r (s.data.toList.take k)) s[k]:=by
 rw [eC s k h,Fc];rfl
theorem SP (y:Nat) (h:y<4294967296):bits .xor .u32 (y:Int) 3988292384=((y^^^3988292384:Nat):Int):=u32_xor_nat y 3988292384 h (by decide)
theorem vo (r:Nat) (b:UInt8) (w:World) (hr:r<4294967296):Calls prog 256 #[.int .u32 (r:Int),.int .u8 (b.toNat:Int)] w fun e w'=>e=.returned (.int .u32 ((xg r b:Nat):Int))∧w'=w:=by
 have hb:=b.toNat_lt;obtain ⟨x,hx⟩:∃x,r^^^b.toNat=x:=⟨_,rfl⟩;have e0:bits .xor .u32 (r:Int) (b.toNat:Int)=(x:Int):=by rw [u32_xor_nat r b.toNat hr (by omega),hx]
 have acU:x<4294967296:=by rw [←hx];exact sT hr b
 have HX:Hid (xg r b=q7 8 x):=by unfold Hid xg;rw [Vm,hx]
 clear hx;go_enter func256,ntmps256;go_wp2_with fail
 go_loop [0,10] (fun y i=>∃k:Nat,k≤8∧i=.int .i64 (k:Int)∧y=.int .u32 ((q7 k x:Nat):Int)) (fun _ i=>8 - (intOf i).toNat)
 case atStart=>exact ⟨0,by omega,rfl,rfl⟩
 case round=>
  obtain ⟨k,hk,rfl,rfl⟩:=hrel;by_cases dA:k<8
  ·have k8:(k:Int)<8:=by omega
   have hz:=D2 k acU;have hs:=GV k x;obtain ⟨z,hz0⟩:∃z,q7 k x=z:=⟨_,rfl⟩;rw [hz0] at hz hs ⊢;have HS:Hid (q7 (k+1) x=jH z):=hs;clear hz0 hs e0
   have ea:bits .and .u32 (z:Int) 1=((z%2:Nat):Int):=by
    have:=u32_and_nat z 1 hz (by decide);rw [nat_mask1] at this;exact this
   obtain ⟨y,hy⟩:∃y,z/2=y:=⟨_,rfl⟩;have hy2:(z:Int)/2=(y:Int):=by omega
   have acR:y<4294967296:=by omega
   have exo:=SP y acR;rcases Nat.mod_two_eq_zero_or_one z with h2 | h2
   ·rw [h2] at ea;have HE:Hid (jH z=y):=by unfold Hid;rw [LW h2,hy]
    clear h2 hy;go_wp2_with fail
    go_round
    case rel=>exact ⟨k+1,by omega,by go_num,by rw [HS.out,HE.out]⟩
    case measure=>simp [intOf];omega
   ·rw [h2] at ea;have HE:Hid (jH z=y^^^3988292384):=by unfold Hid;rw [Rp h2,hy]
    clear h2 hy;go_wp2_with fail
    go_round
    case rel=>exact ⟨k+1,by omega,by go_num,by rw [HS.out,HE.out]⟩
    case measure=>simp [intOf];omega
  ·have k8:decide ((k:Int)<8)=false:=by simp;omega
   obtain rfl:k=8:=by omega
   go_wp2_with fail
   go_ret;exact ⟨aj (by rw [HX.out]),rfl⟩
theorem VK (n:Nat) (h:n<4294967296):bits .xor .u32 IntKind.u32.max (n:Int)=((4294967295 - n:Nat):Int):=by
 have e:IntKind.u32.max=((4294967295:Nat):Int):=by decide
 rw [e,u32_xor_nat 4294967295 n (by decide) h,turned n h]
theorem UR (n:Nat) (s:ByteArray) (w:World) (hn:n<4294967296) (hs:s.size≤281474976710656):Calls prog 235 #[.int .u32 (n:Int),.string s] w fun e w'=>e=.returned (.int .u32 ((ext n s.data.toList:Nat):Int))∧w'=w:=by
 have ht:=VK n hn;obtain ⟨m,hm⟩:∃m,4294967295 - n=m:=⟨_,rfl⟩;have aa9:m<4294967296:=by omega
 have HM:Hid (4294967295 - n=m):=hm;rw [hm] at ht;clear hm;go_enter func235,ntmps235;go_wp2_with fail
 clear ht
 go_loop [5,11] (fun y i=>∃k:Nat,k≤s.size∧i=.int .i64 (k:Int)∧y=.int .u32 ((Nz m (s.data.toList.take k):Nat):Int)) (fun _ i=>s.size - (intOf i).toNat)
 case atStart=>exact ⟨0,by omega,rfl,rfl⟩
 case round=>
  obtain ⟨k,hk,rfl,rfl⟩:=hrel;by_cases hlt:k<s.size
  ·have i2:(k:Int)<(s.size:Int):=by omega
   have hz:=Fb (s.data.toList.take k) aa9;have HS:Hid (Nz m (s.data.toList.take (k+1))=xg (Nz m (s.data.toList.take k)) s[k]):=Ny m s k hlt;go_wp2_with fail
   refine (vo _ s[k] _ hz).mono ?_;rintro e w' ⟨rfl,rfl⟩;go_wp2_with fail
   go_round
   case rel=>exact ⟨k+1,by omega,by go_num,by rw [HS.out]⟩
   case measure=>simp [intOf];omega
  ·have i2:decide ((k:Int)<(s.size:Int))=false:=by simp;omega
   obtain rfl:k=s.size:=by omega
   have hz:=Fb (s.data.toList.take s.size) aa9;have ht:=VK _ hz;go_wp2_with fail
   go_ret;exact ⟨aj (by rw [List.take_of_length_le (by simp)];unfold ext;rw [HM.out]),rfl⟩
theorem Ta (s:ByteArray) (w:World) (hs:s.size≤281474976710656):Calls prog 178 #[.string s] w fun e w'=>e=.returned (.int .u32 ((ext 0 s.data.toList:Nat):Int))∧w'=w:=by
 go_enter func178,ntmps178;go_wp2_with fail
 refine (UR 0 s _ (by decide) hs).mono ?_;rintro e w' ⟨rfl,rfl⟩;go_wp2_with fail
 go_ret;exact ⟨rfl,rfl⟩
open Go.RowKit Go.Maps
def tx (l:List Nat):ByteArray:=⟨(l.map UInt8.ofNat).toArray⟩
theorem nW (l:List Nat):(tx l).size=l.length:=by simp [tx,ByteArray.size]
theorem Vc (w:World) (g cap n:Nat) (l:List Nat) (hn:l.length=n) (hc:∀j (h:j<l.length),w.cell? ⟨g,j,none⟩=some (.int .u8 ((l[j]:Nat):Int))) (hlt:∀x∈l,x<256):(convert 151 9 (.slice (some ⟨g,0,none⟩) n cap)).run prog w=.ok (.string (tx l)) w:=by
 subst hn
 have hc:=run_convert_bytes_back (P:=prog) w 151 9 5 ⟨g,0,none⟩ cap (l.map UInt8.ofNat) underlying151 underlying5 underlying9 (fun j hj=>by
   simp at hj;have e:((⟨g,0,none⟩:Addr).add j)=⟨g,j,none⟩:=by unfold Addr.add;split <;> simp_all
   rw [e,hc j hj];have hlt:=hlt l[j] (List.getElem_mem hj)
   simp [UInt8.toNat_ofNat'];omega)
 rw [List.length_map] at hc;exact hc
def b4 (n:Nat):List Nat:=[n/16777216,n/65536%256,n/256%256,n%256]
theorem abN (n:Nat) (h:n<4294967296):∀x∈b4 n,x<256:=by intro x hx;simp [b4] at hx;omega
theorem Vb (n:Nat) (h:n<4294967296) (w:World) (T:TypeId):(convert 151 9 (.slice (some ⟨w.heap.size,0,none⟩) 4 4)).run prog (w.alloc (.cells #[.int .u8 ((n:Int)/16777216),.int .u8 ((n:Int)/65536%256),.int .u8 ((n:Int)/256%256),.int .u8 ((n:Int)%256)] T))=.ok (.string (tx (b4 n))) (w.alloc (.cells #[.int .u8 ((n:Int)/16777216),.int .u8 ((n:Int)/65536%256),.int .u8 ((n:Int)/256%256),.int .u8 ((n:Int)%256)] T)):=by
 refine Vc _ w.heap.size 4 4 (b4 n) rfl ?_ (abN n h);intro j hj;have Sp:j<4:=hj;have:j=0∨j=1∨j=2∨j=3:=by omega
 rcases this with rfl | rfl | rfl | rfl <;> simp [go_sem,b4]
set_option maxRecDepth 100000 in
theorem kZ (n:Nat) (w:World) (hn:n<4294967296):Calls prog 177 #[.int .u32 (n:Int)] w fun e w'=>e=.returned (.string (tx (b4 n)))∧Below w.heap.size w w':=by
 go_enter func177,ntmps177;go_wp2_with fail
 refine wp_loop_rounds 5 ?_;rw [rounds_succ];go_wp2_with fail
 rw [rounds_succ];go_wp2_with fail
 rw [rounds_succ];go_wp2_with fail
 rw [rounds_succ];go_wp2_with fail
 rw [rounds_succ];go_wp2_with fail
 rw [Vb n hn w _];go_wp2_with fail
 go_ret;exact ⟨rfl,(Below.refl _ _).alloc (Nat.le_refl _) _⟩
def dg (d:Nat):Nat:=if d<10 then 48+d else 87+d
def hx (n:Nat):List Nat:=[dg (n/268435456),dg (n/16777216%16),dg (n/1048576%16),dg (n/65536%16),dg (n/4096%16),dg (n/256%16),dg (n/16%16),dg (n%16)]
def hk (n:Nat):Nat→List Nat
 | 0=>[]
 | k+1=>dg (n/16^k%16)::hk n k
def u8b (l:List UInt8):List Value:=l.map fun b:UInt8=>Value.int .u8 (b.toNat:Int)
@[simp] theorem Xx (l:List UInt8):(u8b l).length=l.length:=by simp [u8b]
end Go.Proofs.YtanaapfobpgibaaGreatDoor.Sm
