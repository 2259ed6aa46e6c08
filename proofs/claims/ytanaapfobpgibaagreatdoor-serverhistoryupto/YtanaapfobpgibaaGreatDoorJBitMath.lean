/- BitMath, BitA, BitK, BitTake, joined. -/
import Derived.ProofKit
import Derived.WalkSpells
import Derived.Deep.RegionHeld3
import Derived.Test.YtanaapfobpgibaaGreatDoorChecked
import Derived.Deep.AppendLies
import Derived.Deep.DrawnRows
open Go.Proofs.Tryz
namespace Go.Proofs.YtanaapfobpgibaaGreatDoor.Bt
open Go.RowKit
variable {l:List Bool}
def bv:List Bool→Nat
 | []=>0
 | b::l=>b.toNat * 2^l.length+bv l
def bo (v:Nat):Nat→List Bool
 | 0=>[]
 | n+1=>decide (v/2^n%2=1)::bo v n
@[simp] theorem a_ (v n:Nat):(bo v n).length=n:=by induction n with
 | zero=>rfl
 | succ n ih=>simp [bo,ih]
theorem ma:∀l:List Bool,bv l<2^l.length
 | []=>by simp [bv]
 | b::l=>by
  have:=ma l;have hb:b.toNat≤1:=by cases b <;> simp
  have h2:b.toNat * 2^l.length≤1 * 2^l.length:=Nat.mul_le_mul_right _ hb;simp only [bv,List.length_cons,Nat.pow_succ];omega
theorem eN (a b:List Bool):bv (a++b)=bv a * 2^b.length+bv b:=by
 induction a with
 | nil=>simp [bv]
 | cons x a ih=>simp only [List.cons_append,bv,ih,List.length_append,Nat.pow_add,Nat.add_mul,Nat.mul_assoc];omega
theorem sJ:∀(a b:List Bool),a.length=b.length→bv a=bv b→a=b
 | [],[],_,_=>rfl
 | [],b::l,h,_=>by simp at h
 | b::l,[],h,_=>by simp at h
 | x::a,y::b,h,e=>by
  simp at h;have ha:=ma a;have hb:=ma b;simp only [bv,h] at e;rw [h] at ha
  have AG:x=y:=by
   cases x <;> cases y <;> simp at e <;> first | rfl | omega
  subst AG;rw [sJ a b h (by omega)]
theorem kq (v n:Nat):bv (bo v n)=v%2^n:=by
 induction n with
 | zero=>simp [bo,bv,Nat.mod_one]
 | succ n ih=>
  simp only [bo,bv,a_,ih]
  have h:(decide (v/2^n%2=1)).toNat=v/2^n%2:=by
   have:v/2^n%2<2:=Nat.mod_lt _ (by decide);by_cases h:v/2^n%2=1
   ·simp [h]
   ·have:v/2^n%2=0:=by omega
    simp [this]
  rw [h,Nat.pow_succ,Nat.mod_mul,Nat.mul_comm];omega
theorem Rh (l:List Bool):bo (bv l) l.length=l:=
 sJ _ _ (by simp) (by rw [kq,Nat.mod_eq_of_lt (ma l)])
theorem abK {v n:Nat} (hl:l.length=n) (h:bv l=v%2^n):bo v n=l:=sJ _ _ (by simp [hl]) (by rw [kq,h])
theorem GQ (v n:Nat):bo (v%2^n) n=bo v n:=sJ _ _ (by simp) (by rw [kq,kq,Nat.mod_mod])
theorem nG (v a b:Nat):bo v (a+b)=bo (v/2^b) a++bo v b:=by
 refine sJ _ _ (by simp) ?_;rw [eN,kq,kq,kq,a_,Nat.add_comm a b,Nat.pow_add,Nat.mod_mul,Nat.mul_comm];omega
theorem ZF (v n:Nat):bo v (n+1)=bo (v/2) n++[decide (v%2=1)]:=by
 rw [nG v n 1];simp [bo]
/- The middle of a row of bits. -/
theorem ZB (a m z:List Bool):bv m=bv (a++m++z)/2^z.length%2^m.length:=by
 rw [eN,eN];have hz:=ma z;have hm:=ma m;rw [Nat.mul_comm,Nat.mul_add_div (Nat.two_pow_pos _),Nat.div_eq_of_lt hz,Nat.add_zero,Nat.mul_comm,Nat.mul_add_mod,Nat.mod_eq_of_lt hm]
theorem Vi (l:List Bool) (c n:Nat) (h:c+n≤l.length):bv ((l.drop c).take n)=bv l/2^(l.length - c - n)%2^n:=by
 have e:l=l.take c++(l.drop c).take n++l.drop (c+n):=by
  rw [List.append_assoc,←List.drop_drop,List.take_append_drop,List.take_append_drop]
 have:=ZB (l.take c) ((l.drop c).take n) (l.drop (c+n));rw [←e] at this;have h1:((l.drop c).take n).length=n:=by simp;omega
 have h2:(l.drop (c+n)).length=l.length - c - n:=by simp;omega
 rw [h1,h2] at this;exact this
theorem iB (l:List Bool):bv l=0↔l=List.replicate l.length false:=by
 have h0:∀n,bv (List.replicate n false)=0:=fun n=>by
  induction n with
  | zero=>rfl
  | succ n ih=>simp [List.replicate_succ,bv,ih]
 constructor
 ·intro h;exact sJ _ _ (by simp) (by rw [h,h0])
 ·intro h;rw [h];exact h0 _
/- One byte of a row of bits, noughts behind it. -/
def uo (t:List Bool):Nat:=bv (t.take 8) * 2^(8 - min 8 t.length)
def xX (l:List Bool) (n:Nat):List Nat:=(List.range n).map fun i=>uo (l.drop (8 * i))
def pk (l:List Bool):List Nat:=xX l ((l.length+7)/8)
@[simp] theorem Ya (l:List Bool) (n:Nat):(xX l n).length=n:=by simp [xX]
theorem kO (l:List Bool):(pk l).length=(l.length+7)/8:=by simp [pk]
theorem lM (l:List Bool) (n i:Nat) (hi:i<n):(xX l n)[i]? =some (uo (l.drop (8 * i))):=by simp [xX,hi]
theorem vU (l:List Bool) (n:Nat):xX l (n+1)=xX l n++[uo (l.drop (8 * n))]:=by simp [xX,List.range_succ]
theorem Bf (t:List Bool):uo t<256:=by
 unfold uo;have h:=ma (t.take 8);rw [List.length_take] at h;have e:256=2^(min 8 t.length) * 2^(8 - min 8 t.length):=by rw [←Nat.pow_add,show min 8 t.length+(8 - min 8 t.length)=8 by omega]
 rw [e];exact Nat.mul_lt_mul_of_pos_right h (Nat.two_pow_pos _)
theorem Vh:uo []=0:=by simp [uo,bv]
theorem jr (t:List Bool) (h:t.length≤8):uo t=bv t * 2^(8 - t.length):=by
 unfold uo;rw [List.take_of_length_le h,Nat.min_eq_right h]
theorem DX (t b:List Bool) (h:8≤t.length):uo (t++b)=uo t:=by
 unfold uo;rw [List.take_append_of_le_length h,Nat.min_eq_left h,Nat.min_eq_left (by simp;omega)]
theorem TG (h:l.length%8=0):xX l (l.length/8+1)=pk l++[0]:=by
 rw [vU,pk,show (l.length+7)/8=l.length/8 by omega,show 8 * (l.length/8)=l.length by omega];simp [Vh]
theorem TE (h:l.length%8≠0):xX l (l.length/8+1)=pk l:=by
 rw [pk,show (l.length+7)/8=l.length/8+1 by omega]
/- Some bits more, within the last byte. -/
theorem TF (l b:List Bool) (h1:1≤b.length) (h2:b.length≤8 - l.length%8) (x:Nat)
  (hx:x=uo (l.drop (8 * (l.length/8)))+bv b * 2^(8 - l.length%8 - b.length)):pk (l++b)=(xX l (l.length/8+1)).set (l.length/8) x:=by
 have hn:((l++b).length+7)/8=l.length/8+1:=by simp;omega
 rw [pk,hn];apply List.ext_getElem?
 intro i;rcases Nat.lt_trichotomy i (l.length/8) with h | h | h
 ·rw [lM _ _ _ (by omega),List.getElem?_set_ne (by omega),lM _ _ _ (by omega),List.drop_append_of_le_length (by omega),DX _ _ (by simp;omega)]
 ·subst h;rw [lM _ _ _ (by omega),List.getElem?_set_self (by simp),List.drop_append_of_le_length (by omega)];have ht:(l.drop (8 * (l.length/8))).length=l.length%8:=by simp;omega
  rw [jr _ (by simp;omega),hx,jr _ (by omega),eN,List.length_append,ht,Nat.add_mul,Nat.mul_assoc,←Nat.pow_add]
  congr 3
  ·rw [show b.length+(8 - (l.length%8+b.length))=8 - l.length%8 by omega]
  ·rw [Nat.sub_sub]
 ·rw [List.getElem?_eq_none (by simp;omega),List.getElem?_eq_none (by simp;omega)]
/- The bits of bytes. -/
def tb (s:List Nat):List Bool:=s.flatMap fun b=>bo b 8
@[simp] theorem bT (s:List Nat):(tb s).length=8 * s.length:=by
 induction s with
 | nil=>rfl
 | cons x s ih=>
  show (bo x 8++tb s).length=_
  rw [List.length_append,ih];simp;omega
theorem nY (a b:List Nat):tb (a++b)=tb a++tb b:=by simp [tb]
theorem Hq (s:List Nat) (i:Nat):(tb s).drop (8 * i)=tb (s.drop i):=by
 rcases Nat.lt_or_ge i s.length with h | h
 ·have e:s=s.take i++s.drop i:=by simp
  have hl:(tb (s.take i)).length=8 * i:=by rw [bT];simp;omega
  calc (tb s).drop (8 * i)=(tb (s.take i)++tb (s.drop i)).drop (8 * i):=by rw [←nY,←e]
   _=_:=by rw [←hl];exact List.drop_left' rfl
 ·rw [List.drop_eq_nil_of_le (by simp;omega),List.drop_eq_nil_of_le h];rfl
theorem Hr (s:List Nat) (i:Nat) (h:i<s.length):((tb s).drop (8 * i)).take 8=bo s[i] 8:=by
 rw [Hq,List.drop_eq_getElem_cons h];simp only [tb,List.flatMap_cons];exact List.take_left' (by simp)
theorem Ic (s:List Nat) (h:∀x∈s,x<256):pk (tb s)=s:=by
 apply List.ext_getElem?
 intro i;rcases Nat.lt_or_ge i s.length with hi | hi
 ·rw [pk,lM _ _ _ (by simp;omega),List.getElem?_eq_getElem hi];unfold uo;rw [Hr s i hi,kq,Hq,bT,Nat.min_eq_left (by simp;omega)];have:=h s[i] (List.getElem_mem hi);simp;omega
 ·rw [List.getElem?_eq_none hi,List.getElem?_eq_none (by rw [kO];simp;omega)]
/- The middle of one byte. -/
theorem Hp (s:List Nat) (c n:Nat) (hn:n≤8 - c%8) (hc:c/8<s.length):bv (((tb s).drop c).take n)=s[c/8]/2^(8 - c%8 - n)%2^n:=by
 have e:((tb s).drop c).take n=((bo s[c/8] 8).drop (c%8)).take n:=by
  rw [←Hr s (c/8) hc,List.drop_take,List.drop_drop,List.take_take,Nat.min_eq_left hn,show 8 * (c/8)+c%8=c by omega]
 rw [e,Vi _ _ _ (by simp;omega),kq,a_];have h8:(2:Nat)^8=2^(8 - c%8 - n) * 2^(c%8+n):=by rw [←Nat.pow_add,show 8 - c%8 - n+(c%8+n)=8 by omega]
 rw [h8,Nat.mod_mul,Nat.add_mul_div_left _ _ (Nat.two_pow_pos _),Nat.div_eq_of_lt (Nat.mod_lt _ (Nat.two_pow_pos _)),Nat.zero_add,Nat.mod_mod_of_dvd _ (Nat.pow_dvd_pow 2 (by omega))]
theorem Ho (l:List Bool):tb (pk l)=l++List.replicate (8 * ((l.length+7)/8) - l.length) false:=by
 have h8:∀t:List Bool,bo (uo t) 8=t.take 8++List.replicate (8 - min 8 t.length) false:=fun t=>by
  refine abK (by simp;omega) ?_;rw [Nat.mod_eq_of_lt (Bf t),eN,(iB (List.replicate _ false)).2 (by simp)];simp [uo]
 have hn:∀n,n≤(l.length+7)/8→tb (xX l n)=l.take (8 * n)++List.replicate (8 * n - l.length) false:=fun n=>by
  induction n with
  | zero=>intro _;simp [xX,tb]
  | succ n ih=>
   intro hn;rw [vU,nY,ih (by omega)];have e1:8 * n - l.length=0:=by omega
   simp only [tb,List.flatMap_cons,List.flatMap_nil,List.append_nil,h8,e1,List.replicate_zero];rw [←List.append_assoc,show 8 * (n+1)=8 * n+8 by omega,List.take_add]
   congr 2
   simp;omega
 rw [pk,hn _ (Nat.le_refl _),List.take_of_length_le (by omega)]
theorem yQ (l:List Bool):∀x∈pk l,x<256:=by
 intro x hx;simp [pk,xX] at hx;obtain ⟨i,_,rfl⟩:=hx;exact Bf _
theorem FB (l:List Bool) (k:Nat) (h:(l.length+k+7)/8=(l.length+7)/8):pk (l++List.replicate k false)=pk l:=by
 unfold pk;rw [List.length_append,List.length_replicate,h];apply List.ext_getElem?
 intro i;rcases Nat.lt_or_ge i ((l.length+7)/8) with hi | hi
 ·rw [lM _ _ _ hi,lM _ _ _ hi,List.drop_append_of_le_length (by omega)];rcases Nat.lt_or_ge (l.drop (8 * i)).length 8 with h1 | h1
  ·have hk:(l.drop (8 * i)).length+k≤8:=by simp at h1 ⊢;omega
   rw [jr _ (by simpa using hk),jr _ (by omega),eN,(iB (List.replicate k false)).2 (by simp)];rw [Nat.add_zero,List.length_append,List.length_replicate,Nat.mul_assoc,←Nat.pow_add];rw [show k+(8 - ((l.drop (8 * i)).length+k))=8 - (l.drop (8 * i)).length by omega]
  ·rw [DX _ _ h1]
 ·rw [List.getElem?_eq_none (by simpa using hi),List.getElem?_eq_none (by simpa using hi)]
set_option linter.unusedVariables false
set_option maxRecDepth 4000
theorem aj {k:IntKind} {a b:Int} (h:a=b):Ending.returned (.int k a)=.returned (.int k b):=by rw [h]
theorem ae {a b:Bool} (h:a=b):Ending.returned (.bool a)=.returned (.bool b):=by rw [h]
def Gw (n:Int):Prop:=1≤n∧n≤64
def gw (n:Int):Bool:=decide (1≤n)&&decide (n≤64)
theorem Gn {n:Int} (h:Gw n):gw n=true:=by simp [gw,h.1,h.2]
theorem Qf {n:Int} (h:¬Gw n):gw n=false:=by
 rw [Bool.eq_false_iff];intro hh;simp [gw] at hh;exact h hh
theorem fj (n:Int) (w:World):Calls prog 237 #[.int .i64 n] w fun e w'=>e=.returned (.bool (gw n))∧w'=w:=by
 by_cases h1:1≤n
 ·by_cases h2:n≤64
  ·go_enter func237,ntmps237;go_wp2
   go_ret;exact ⟨ae (by simp [gw,h1,h2]),rfl⟩
  ·go_enter func237,ntmps237;go_wp2
   go_ret;exact ⟨ae (by simp [gw,h1,h2]),rfl⟩
 ·go_enter func237,ntmps237;go_wp2
  go_ret;exact ⟨ae (by simp [gw];omega),rfl⟩
theorem pG (n:Nat) (hn:n≤8) (w:World):Calls prog 217 #[.int .i64 (n:Int)] w fun e w'=>e=.returned (.int .u64 ((2^n - 1:Nat):Int))∧w'=w:=by
 have h:n=0∨n=1∨n=2∨n=3∨n=4∨n=5∨n=6∨n=7∨n=8:=by omega
 rcases h with rfl | rfl | rfl | rfl | rfl | rfl | rfl | rfl | rfl <;>
 ·go_enter func217,ntmps217;go_wp2
  go_ret;exact ⟨rfl,rfl⟩
theorem r9 (g c:Nat) (w:World) (hb:c<4611686018427387904) (hc:w.cell? ⟨g,0,none⟩=some (.int .i64 (c:Int))):Calls prog 215 #[.pointer (some ⟨g,0,none⟩)] w fun e w'=>e=.returned (.int .i64 ((c/8:Nat):Int))∧w'=w:=by
 go_enter func215,ntmps215;go_wp2
 go_ret;exact ⟨aj (by omega),rfl⟩
theorem Cw (g c:Nat) (w:World) (hb:c<4611686018427387904) (hc:w.cell? ⟨g,0,none⟩=some (.int .i64 (c:Int))):Calls prog 216 #[.pointer (some ⟨g,0,none⟩)] w fun e w'=>e=.returned (.int .i64 ((8 - c%8:Nat):Int))∧w'=w:=by
 go_enter func216,ntmps216;go_wp2
 go_ret;exact ⟨aj (by omega),rfl⟩
theorem ig (g c n:Nat) (w:World) (hs:c+n<4611686018427387904) (hc:w.cell? ⟨g,0,none⟩=some (.int .i64 (c:Int))) (hf:w.frozen? ⟨g,0,none⟩=false):Calls prog 218 #[.pointer (some ⟨g,0,none⟩),.int .i64 (n:Int)] w fun e w'=>e=.returned (.tuple #[])∧w'=w.setCell ⟨g,0,none⟩ (.int .i64 ((c+n:Nat):Int)):=by
 go_enter func218,ntmps218;go_wp2
 go_end0
 exact ⟨rfl,by simp⟩
theorem qT (v k:Nat):((v:Int)/2^k==0)=decide (v<2^k):=by
 have e:(v:Int)/2^k=((v/2^k:Nat):Int):=by simp
 rw [e];have h:=Nat.two_pow_pos k;by_cases hv:v<2^k
 ·simp [hv,Nat.div_eq_of_lt hv]
 ·have:0<v/2^k:=Nat.div_pos (by omega) h;simp [hv];omega
theorem eG (v:Nat) (n:Int) (w:World) (hv:v<18446744073709551616):Calls prog 214 #[.int .u64 (v:Int),.int .i64 n] w fun e w'=>e=.returned (.bool (gw n&&decide (v<2^n.toNat)))∧w'=w:=by
 by_cases h:Gw n
 ·obtain ⟨h1,h2⟩:=id h;have hg:=Gn h;go_enter func214,ntmps214;go_wp2_with (go_at_call 237;refine (fj _ _).mono ?_;rintro e w' ⟨rfl,rfl⟩)
  go_ret;exact ⟨ae (by rw [hg,qT];rfl),rfl⟩
 ·have hg:=Qf h;go_enter func214,ntmps214;go_wp2_with (go_at_call 237;refine (fj _ _).mono ?_;rintro e w' ⟨rfl,rfl⟩)
  go_ret;exact ⟨ae (by simp [hg]),rfl⟩
theorem qo (w:World):Calls prog 113 #[] w fun e w'=>e=.returned (.pointer (some ⟨w.heap.size,0,none⟩))∧w'=w.alloc (.cells #[.int .i64 0,.slice none 0 0] 268):=by
 go_enter func113,ntmps113;go_wp2
 go_ret;exact ⟨rfl,rfl⟩
theorem gj (s:ByteArray) (w:World):Calls prog 131 #[.string s] w fun e w'=>e=.returned (.pointer (some ⟨w.heap.size,0,none⟩))∧w'=w.alloc (.cells #[.int .i64 0,.string s] 288):=by
 go_enter func131,ntmps131;go_wp2
 go_ret;exact ⟨rfl,rfl⟩
open Go.RowKit Go.Maps
variable {F:Nat→Prop} {a w w' w1:World} {B c cap g n p:Nat} {v:Value} {l:List Bool}
structure Kept (F:Nat→Prop) (w w':World):Prop where
 os:w'.os=w.os
 tape:w'.tape=w.tape
 output:w'.output=w.output
 size:w.heap.size≤w'.heap.size
 block:∀k,k<w.heap.size→¬F k→w'.heap[k]? =w.heap[k]?
theorem Kept.refl (F:Nat→Prop) (w:World):Kept F w w:=⟨rfl,rfl,rfl,Nat.le_refl _,fun _ _ _=>rfl⟩
theorem Kept.trans {F F':Nat→Prop} {a b c:World} (h:Kept F a b) (k:Kept F' b c) (hF:∀i,i<a.heap.size→F' i→F i):Kept F a c:=
 ⟨k.os.trans h.os,k.tape.trans h.tape,k.output.trans h.output,Nat.le_trans h.size k.size,fun i hi hn=>(k.block i (Nat.lt_of_lt_of_le hi h.size) (fun h'=>hn (hF i hi h'))).trans (h.block i hi hn)⟩
theorem Kept.mono {F':Nat→Prop} {b:World} (h:Kept F a b) (hF:∀i,i<a.heap.size→F i→F' i):Kept F' a b:=⟨h.os,h.tape,h.output,h.size,fun i hi hn=>h.block i hi (fun h'=>hn (hF i hi h'))⟩
theorem Kept.drew (h:Kept F a w):Kept F a w.drew:=⟨h.os,h.tape,h.output,h.size,h.block⟩
theorem Kept.alloc (h:Kept F a w) (o:Obj):Kept F a (w.alloc o):=
 h.trans (F':=F) ⟨rfl,rfl,rfl,by simp,fun k hk _=>Below.heap_alloc _ _ _ hk⟩ (fun _ _ h=>h)
theorem Kept.setCell {F:Nat→Prop} {a w:World} (h:Kept F a w) {p:Addr} (hp:p.block<a.heap.size→F p.block) (u:Value):Kept F a (w.setCell p u):=
 h.trans (F':=fun k=>k=p.block) ⟨rfl,rfl,rfl,by simp [World.setCell],fun k hk hn=>Below.heap_setCell _ _ _ _ hn⟩ (fun i hi e=>by subst e;exact hp hi)
theorem Kept.grown {row:Option Nat} (h:Kept F a w) (hg:w.grownBy w' row) (hr:∀k,row=some k→k<a.heap.size→F k):Kept F a w':=
 h.trans (F':=fun k=>row=some k) ⟨hg.os,hg.tape,hg.output,hg.size,fun k hk hn=>hg.block k hk (fun e=>hn e.symm)⟩ (fun i hi e=>hr i e hi)
theorem Kept.bb (h:Below w.heap.size w w'):Kept F w w':=⟨h.os,h.tape,h.output,h.size,fun k hk _=>h.block k hk⟩
theorem Kept.below (h:Kept F w w') (hB:B≤w.heap.size) (hF:∀k,F k→B≤k):Below B w w':=
 ⟨h.os,h.tape,h.output,h.size,fun k hk=>h.block k (by omega) (fun e=>by have:=hF k e;omega)⟩
theorem Kept.cell {F:Nat→Prop} {w w':World} (h:Kept F w w') {a:Addr} {v:Value} (hc:w.cell? a=some v) (hn:¬F a.block):w'.cell? a=some v:=
 (World.cell?_of_block (h.block a.block (World.block_lt_of_cell? w a hc) hn)).trans hc
theorem Kept.row {base e size:Nat} {xs:List Value} (h:Kept F w w') (hr:w.ownsRow base e size v n xs) (hn:∀k,v.ownBlock=some k→¬F k):w'.ownsRow base e size v n xs:=by
 refine ⟨hr.1,?_⟩;rcases hr.2 with h0 | ⟨g,cap,cur,rfl,hb,Dh,rest⟩
 ·exact .inl h0
 ·refine .inr ⟨g,cap,cur,rfl,hb,?_,rest⟩;rw [h.block g (Array.getElem?_eq_some_iff.1 Dh).1 (hn g rfl)];exact Dh
def rG (l:List Nat):List Value:=l.map fun n:Nat=>Value.int .u8 (n:Int)
@[simp] theorem Xw (l:List Nat):(rG l).length=l.length:=by simp [rG]
theorem vd (a b:List Nat):rG (a++b)=rG a++rG b:=by simp [rG]
theorem SY (l:List Nat) (i x:Nat):(rG l).set i (.int .u8 (x:Int))=rG (l.set i x):=by simp [rG,List.map_set]
theorem Pj:(prog.info? 5).map (fun i=>(i.zero,i.size,i.bytes))=some (some (.int .u8 0),1,1):=by kernel_rfl
/- A writer in memory: the bits l; v: its bytes' slice. -/
structure Wr (B:Nat) (w:World) (g:Nat) (l:List Bool) (v:Value):Prop where
 blk:w.heap[g]? =some (.cells #[.int .i64 (l.length:Int),v] 268)
 row:w.ownsRow B 5 1 v (pk l).length (rG (pk l))
 lt:g<B
def Fw (g:Nat) (v:Value) (k:Nat):Prop:=k=g∨v.ownBlock=some k
theorem Wr.spell (h:Wr B w g l v):∃a cap,v=.slice a (pk l).length cap:=by
 rcases h.row.2 with ⟨h0,h1⟩ | ⟨r,cap,cur,hv,_⟩
 ·exact ⟨none,0,by rw [h0,h1]⟩
 ·exact ⟨_,cap,hv⟩
theorem Wr.c0 (h:Wr B w g l v):w.cell? ⟨g,0,none⟩=some (.int .i64 (l.length:Int)):=by simp [World.cell?,h.blk]
theorem Wr.c1 (h:Wr B w g l v):w.cell? ⟨g,1,none⟩=some v:=by simp [World.cell?,h.blk]
theorem Wr.fr (h:Wr B w g l v) (j:Nat):w.frozen? ⟨g,j,none⟩=false:=by simp [World.frozen?,h.blk]
theorem Wr.kept (h:Wr B w g l v) (hk:Kept F w w') (hF:∀k,Fw g v k→¬F k):Wr B w' g l v:=
 ⟨(hk.block g (Array.getElem?_eq_some_iff.1 h.blk).1 (hF g (.inl rfl))).trans h.blk,hk.row h.row (fun k hv=>hF k (.inr hv)),h.lt⟩
theorem Wr.kB (h:Wr B w g l v):∀k,Fw g v k→k<w.heap.size:=fun k hk=>by
 rcases hk with rfl | hk
 ·exact (Array.getElem?_eq_some_iff.1 h.blk).1
 ·exact (h.row.lt k hk).2
theorem Wr.new (w:World):Wr (w.heap.size+1) (w.alloc (.cells #[.int .i64 0,.slice none 0 0] 268)) w.heap.size [] (.slice none 0 0):=
 ⟨heap_alloc_new w _,World.ownsRow_nil _ _ _ _,Nat.lt_succ_self _⟩
theorem jc {i:Nat} {cs:Array Value} {t:TypeId} (h:w.heap[g]? =some (.cells cs t)) (v:Value):(w.setCell ⟨g,i,none⟩ v).heap[g]? =some (.cells (cs.setIfInBounds i v) t):=heap_setCell_same w g i cs t v h
/- A writer whose last byte is there, its bits not yet. -/
structure Wm (B:Nat) (w:World) (g:Nat) (l:List Bool) (r p cap:Nat):Prop where
 blk:w.heap[g]? =some (.cells #[.int .i64 (l.length:Int),.slice (some ⟨r,0,none⟩) (p+1) cap] 268)
 row:w.ownsRow B 5 1 (.slice (some ⟨r,0,none⟩) (p+1) cap) (p+1) (rG (xX l (p+1)))
 lt:g<B
 at':l.length/8=p
theorem Wm.c0 {r:Nat} (h:Wm B w g l r p cap):w.cell? ⟨g,0,none⟩=some (.int .i64 (l.length:Int)):=by simp [World.cell?,h.blk]
theorem Wm.c1 {r:Nat} (h:Wm B w g l r p cap):w.cell? ⟨g,1,none⟩=some (.slice (some ⟨r,0,none⟩) (p+1) cap):=by simp [World.cell?,h.blk]
theorem Wm.fr {r:Nat} (h:Wm B w g l r p cap) (j:Nat):w.frozen? ⟨g,j,none⟩=false:=by simp [World.frozen?,h.blk]
theorem Wm.ge {r:Nat} (h:Wm B w g l r p cap):B≤r:=(h.row.lt r rfl).1
theorem Wm.cp {r:Nat} (h:Wm B w g l r p cap):w.cell? ⟨r,p,none⟩=some (.int .u8 (uo (l.drop (8 * p)):Nat)):=by
 rw [h.row.cellAt p (by omega)];simp only [rG,List.getElem?_map,lM l (p+1) p (by omega),Option.map_some]
theorem Wm.fp {r:Nat} (h:Wm B w g l r p cap):w.frozen? ⟨r,p,none⟩=false:=h.row.frozenAt p
theorem Wm.drew {r:Nat} (h:Wm B w g l r p cap):Wm B w.drew g l r p cap:=⟨h.blk,h.row,h.lt,h.at'⟩
theorem Wr.drew (h:Wr B w g l v):Wr B w.drew g l v:=⟨h.blk,h.row,h.lt⟩
theorem Wr.grown {r:Nat} {a:Option Addr} {jG:Nat} (h:Wr B w g l (.slice a n jG)) (hp:l.length/8=p) (h0:l.length%8=0)
  (hr:w1.ownsRow B 5 1 (.slice (some ⟨r,0,none⟩) (p+1) cap) (p+1) (rG (pk l)++[.int .u8 0])) (hg:w.grownBy w1 (Value.slice a n jG).ownBlock):
  Wm B (w1.setCell ⟨g,1,none⟩ (.slice (some ⟨r,0,none⟩) (p+1) cap)) g l r p cap:=by
 have hb:w1.heap[g]? =some (.cells #[.int .i64 (l.length:Int),.slice a n jG] 268):=by
  rw [hg.block g (Array.getElem?_eq_some_iff.1 h.blk).1 (fun e=>by have:=(h.row.lt g e.symm).1;have:=h.lt;omega)];exact h.blk
 have hb2:=jc (i:=1) hb (.slice (some ⟨r,0,none⟩) (p+1) cap);refine ⟨by rw [hb2];simp,?_,h.lt,hp⟩;have hbr:=(hr.lt r rfl).1;have hlt:=h.lt;have e:rG (pk l)++[.int .u8 0]=rG (xX l (p+1)):=by rw [←hp,TG h0,vd];rfl
 rw [e] at hr;exact (Kept.refl (fun k=>k=g) w1).setCell (p:=⟨g,1,none⟩) (fun _=>rfl) _ |>.row hr (fun k hk e=>by cases hk;have e':r=g:=e;omega)
theorem Wr.part (h:Wr B w g l v) (h0:l.length%8≠0):∃r cap,v=.slice (some ⟨r,0,none⟩) (l.length/8+1) cap∧Wm B w g l r (l.length/8) cap:=by
 have hl:(pk l).length=l.length/8+1:=by rw [kO];omega
 rcases h.row.2 with ⟨_,h1⟩ | ⟨r,cap,cur,hv,_⟩
 ·omega
 ·rw [hl] at hv;subst hv;have hr:=h.row;rw [hl,←TE h0] at hr;exact ⟨r,cap,rfl,h.blk,hr,h.lt,rfl⟩
/- The bits are put. -/
theorem Wm.fin {b:List Bool} {r x:Nat} (h:Wm B w g l r p cap) (h1:1≤b.length) (h2:b.length≤8 - l.length%8)
  (hx:x=uo (l.drop (8 * p))+bv b * 2^(8 - l.length%8 - b.length)) (hc:c=l.length+b.length):
  Wr B ((w.setCell ⟨r,p,none⟩ (.int .u8 (x:Int))).setCell ⟨g,0,none⟩ (.int .i64 (c:Int))) g (l++b) (.slice (some ⟨r,0,none⟩) (p+1) cap):=by
 obtain ⟨s1,s2⟩:=h.row.stored p (.int .u8 (x:Int));have BN:=h.ge;have hlt:=h.lt;have hp:=h.at'
 have hb:(w.setCell ⟨r,p,none⟩ (.int .u8 (x:Int))).heap[g]? =some (.cells #[.int .i64 (l.length:Int),.slice (some ⟨r,0,none⟩) (p+1) cap] 268):=by
  rw [Below.heap_setCell _ _ _ _ (by show g≠r;omega)];exact h.blk
 have e:pk (l++b)=(xX l (p+1)).set p x:=by
  subst hp;exact TF l b h1 h2 x hx
 have hlen:(pk (l++b)).length=p+1:=by rw [e];simp
 refine ⟨by rw [jc hb,hc];simp,?_,h.lt⟩;rw [hlen,e,←SY];exact (Kept.refl (fun k=>k=g) _).setCell (p:=⟨g,0,none⟩) (fun _=>rfl) _ |>.row s1 (fun k hk e=>by cases hk;have e':r=g:=e;omega)
theorem Wr.alloc {B:Nat} {w:World} {g:Nat} {l:List Bool} {v:Value} (h:Wr B w g l v) (o:Obj):Wr B (w.alloc o) g l v:=h.kept ((Kept.refl (fun _=>False) w).alloc o) (fun _ _ h=>h)
theorem Wr.far (h:Wr B w g l v) (hg:w.grownBy w1 v.ownBlock):w1.cell? ⟨g,1,none⟩=some v∧w1.frozen? ⟨g,1,none⟩=false:=by
 have hb:=hg.block g (Array.getElem?_eq_some_iff.1 h.blk).1 (fun e=>by have:=(h.row.lt g e.symm).1;have:=h.lt;omega);exact ⟨(World.cell?_of_block hb).trans h.c1,(World.frozen?_of_block hb).trans (h.fr 1)⟩
theorem oV (d:Nat) (h:d<4611686018427387904):IntKind.i64.wrap (d:Int)=(d:Int):=by simp [IntKind.wrap,IntKind.bits,IntKind.signed];omega
theorem Cn (t d z:Nat) (hz:t * 2^d=z) (h:z<18446744073709551616):IntKind.u64.wrap ((t:Int) * 2^d)=(z:Int):=by
 have e2:(t:Int) * 2^d=(z:Int):=by rw [←hz];simp
 rw [e2,IntKind.wrap_u64];omega
/- A round of Put. -/
theorem Wm.abD {L:List Bool} {r v k j q t d z y yz rm:Nat} (h:Wm B w g L r p cap) (hL:l++bo (v/2^k) (n - k)=L) (hk:k≤n) (h1:1≤q) (Sk:q≤k) (hqr:q≤rm)
  (hc:L.length=c) (Si:8 - c%8=rm) (hj:k - q=j) (ht:v/2^j%2^q=t) (hd:rm - q=d) (hz:t * 2^d=z) (hy:uo (L.drop (8 * p))=y) (Uc:y+z=yz):
  Wr B ((w.setCell ⟨r,p,none⟩ (.int .u8 (yz:Int))).setCell ⟨g,0,none⟩ (.int .i64 ((c:Int)+(q:Int)))) g (l++bo (v/2^j) (n - j)) (.slice (some ⟨r,0,none⟩) (p+1) cap):=by
 rw [show (c:Int)+(q:Int)=((c+q:Nat):Int) by simp]
 have e:l++bo (v/2^j) (n - j)=L++bo (v/2^j) q:=by
  rw [show n - j=(n - k)+q by omega,nG,Nat.div_div_eq_div_mul,←Nat.pow_add,show j+q=k by omega,←List.append_assoc,hL]
 rw [e];refine h.fin (by simpa using h1) (by simp;omega) ?_ (by rw [hc];simp);rw [kq,ht,hy,a_,hc,Si,hd,hz,Uc]
theorem fN (w:World) (x:Value) (t:TypeId) (n:Nat) (hn:n=w.heap.size):∀j u,[x][j]? =some u→(w.alloc (.cells #[x] t)).cell? ((⟨n,0,none⟩:Addr).add j)=some u:=by
 subst hn;intro j u hj
 match j,hj with
 | 0,hj=>simp at hj;subst hj;simp [Addr.add,go_sem]
theorem or8 (p x y:Nat) (hx:x%2^p=0) (hy:y<2^p) (h1:x<256) (h2:y<256):bits .or .u8 (x:Int) (y:Int)=((x+y:Nat):Int):=by
 rw [u8_or_nat x y h1 h2,nat_join p x y hx hy]
theorem RA (v n:Nat) (hv:v<18446744073709551616) (hn:n≤8):bits .and .u64 (v:Int) ((2^n - 1:Nat):Int)=((v%2^n:Nat):Int):=by
 have:2^n≤2^8:=Nat.pow_le_pow_right (by decide) hn;rw [u64_and_nat v (2^n - 1) hv (by omega),Nat.and_two_pow_sub_one_eq_mod]
attribute [local go_sem ↓] Go.wp_at_zero Go.wp_at_succ
variable {w:World} {c g:Nat} {s:ByteArray}
theorem bu (x:Int) (h1: -9223372036854775808≤x) (h2:x≤9223372036854775807):IntKind.i64.wrap x=x:=by simp [IntKind.wrap,IntKind.bits,IntKind.signed];omega
/- The bytes of a text, as numbers. -/
def bA (s:ByteArray):List Nat:=s.data.toList.map fun b=>b.toNat
theorem a8 (s:ByteArray):(bA s).length=s.size:=by simp [bA]
/- A reader in memory: at place c of the text s. -/
structure Rr (w:World) (g:Nat) (c:Nat) (s:ByteArray):Prop where
 blk:w.heap[g]? =some (.cells #[.int .i64 (c:Int),.string s] 288)
 le:c≤8 * s.size
theorem Rr.c0 (h:Rr w g c s):w.cell? ⟨g,0,none⟩=some (.int .i64 (c:Int)):=by simp [World.cell?,h.blk]
theorem Rr.c1 (h:Rr w g c s):w.cell? ⟨g,1,none⟩=some (.string s):=by simp [World.cell?,h.blk]
theorem Rr.fr (h:Rr w g c s) (j:Nat):w.frozen? ⟨g,j,none⟩=false:=by simp [World.frozen?,h.blk]
theorem Rr.drew (h:Rr w g c s):Rr w.drew g c s:=⟨h.blk,h.le⟩
theorem Rr.kept {w':World} (h:Rr w g c s) {F:Nat→Prop} (hk:Kept F w w') (hF:¬F g):Rr w' g c s:=
 ⟨(hk.block g (Array.getElem?_eq_some_iff.1 h.blk).1 hF).trans h.blk,h.le⟩
theorem Rr.new (w:World) (s:ByteArray):Rr (w.alloc (.cells #[.int .i64 0,.string s] 288)) w.heap.size 0 s:=⟨heap_alloc_new w _,Nat.zero_le _⟩
theorem Rr.step (h:Rr w g c s) (q:Nat) (hq:c+q≤8 * s.size):Rr (w.setCell ⟨g,0,none⟩ (.int .i64 ((c:Int)+(q:Int)))) g (c+q) s:=by
 refine ⟨?_,hq⟩;rw [jc h.blk];simp
theorem acv (q V2 t:Nat) (h0:V2%2^q=0) (ht:t<2^q) (h1:V2<18446744073709551616) (h2:t<18446744073709551616):bits .or .u64 (V2:Int) (t:Int)=((V2+t:Nat):Int):=by
 rw [u64_or_nat V2 t h1 h2,nat_join q V2 t h0 ht]
theorem Jz (s:ByteArray) (p:Nat) (h:p<s.size):(bA s)[p]'(by rw [a8];exact h)=(s[p]'h).toNat:=by
 simp [bA];rfl
/- A round of Take. -/
theorem EZ (s:ByteArray) (c n k q a p d:Nat) (ha:c+(n - k)=a) (hp:a/8=p) (hq:q≤8 - a%8) (hd:8 - a%8 - q=d) (Sk:q≤k) (hk:k≤n) (hn:c+n≤8 * s.size) (tD:p<s.size):
  bv (((tb (bA s)).drop c).take (n - (k - q)))=bv (((tb (bA s)).drop c).take (n - k)) * 2^q+(s[p]'tD).toNat/2^d%2^q:=by
 have e:((tb (bA s)).drop c).take (n - (k - q))=((tb (bA s)).drop c).take (n - k)++((tb (bA s)).drop a).take q:=by
  rw [show n - (k - q)=(n - k)+q by omega,List.take_add,List.drop_drop,ha]
 have hl:(((tb (bA s)).drop a).take q).length=q:=by simp [a8];omega
 rw [e,eN,hl];have:=Hp (bA s) a q hq (by rw [a8,hp];exact tD);rw [this,hd];subst hp;rw [Jz s (a/8) tD]
theorem wu (g c:Nat) (s:ByteArray) (w:World) (h:Rr w g c s) (hs:s.size<1125899906842624):Calls prog 238 #[.pointer (some ⟨g,0,none⟩)] w fun e w'=>e=.returned (.int .i64 ((8 * s.size - c:Nat):Int))∧w'=w.drew:=by
 have h0:=h.c0;have h1:=h.c1;have hle:=h.le;obtain ⟨m,hm⟩:∃m,s.size=m:=⟨_,rfl⟩;rw [hm] at hle hs;rw [hm];go_enter func238,ntmps238;go_wp2_with fail
 go_region_held3 (fun w'=>w'.cell? ⟨g,0,none⟩=some (.int .i64 (c:Int))∧w'.cell? ⟨g,1,none⟩=some (.string s)) (go_keep) (fail)
 go_wp2
 go_ret;exact ⟨aj (by rw [bu ((m:Int) * 8) (by omega) (by omega),bu _ (by omega) (by omega)];omega),rfl⟩
/- What a row of bits has left: is it done? -/
def dn (l:List Bool) (c:Nat):Bool:=decide (l.length - c<8)&&decide (bv (l.drop c)=0)
theorem Ht (g c:Nat) (s:ByteArray) (n:Int) (w:World) (h:Rr w g c s) (hs:s.size<1125899906842624) (hn:¬(Gw n∧n≤((8 * s.size - c:Nat):Int))):
  Calls prog 184 #[.pointer (some ⟨g,0,none⟩),.int .i64 n] w fun e w'=>e=.returned (.tuple #[.int .u64 0,.int .i64 6])∧(w'=w∨w'=w.drew):=by
 by_cases hg:Gw n
 ·have hgw:=Gn hg;have hl:=wu g c s w h hs;obtain ⟨m,hm⟩:∃m,8 * s.size - c=m:=⟨_,rfl⟩;rw [hm] at hn hl
  have hlt:(m:Int)<n:=by
   rcases Int.lt_or_le (m:Int) n with h | h
   ·exact h
   ·exact absurd ⟨hg,h⟩ hn
  clear hn hm;go_enter func184,ntmps184;go_wp2_with fail
  refine (fj n _).mono ?_;rintro e w1 ⟨rfl,rfl⟩;rw [hgw];go_wp2_with fail
  refine hl.mono ?_;rintro e w2 ⟨rfl,rfl⟩;go_wp2
  go_ret2
  exact ⟨rfl,.inr rfl⟩
 ·have hgw:=Qf hg;clear hn;go_enter func184,ntmps184;go_wp2_with fail
  refine (fj n _).mono ?_;rintro e w1 ⟨rfl,rfl⟩;rw [hgw];go_wp2
  go_ret2
  exact ⟨rfl,.inl rfl⟩
set_option maxHeartbeats 2000000 in
set_option maxRecDepth 100000 in
theorem Cg (g c n:Nat) (s:ByteArray) (w:World) (h:Rr w g c s) (hs:s.size<1125899906842624) (h1:1≤n) (h2:n≤64) (hn:c+n≤8 * s.size):
  Calls prog 184 #[.pointer (some ⟨g,0,none⟩),.int .i64 (n:Int)] w fun e w'=>e=.returned (.tuple #[.int .u64 ((bv (((tb (bA s)).drop c).take n):Nat):Int),.int .i64 0])∧Rr w' g (c+n) s∧Kept (fun k=>k=g) w w':=by
 have hgw:gw (n:Int)=true:=by simp [gw];omega
 have hl:=wu g c s w h hs;obtain ⟨m,hm⟩:∃m,8 * s.size - c=m:=⟨_,rfl⟩;rw [hm] at hl;have hle:decide ((m:Int)<(n:Int))=false:=by simp;omega
 have adT:decide (m<n)=false:=by simp;omega
 have adS:¬m<n:=by omega
 obtain ⟨T,hT⟩:∃T,tb (bA s)=T:=⟨_,rfl⟩;rw [hT];have HT:Hid (tb (bA s)=T):=hT;have HN:Hid (c+n≤8 * s.size):=hn;have HR:Hid (Rr w g c s):=h;clear hm hT hn h;go_enter func184,ntmps184;go_wp2_with fail
 refine (fj n _).mono ?_;rintro e w1 ⟨rfl,rfl⟩;rw [hgw];go_wp2_with fail
 refine hl.mono ?_;rintro e w2 ⟨rfl,rfl⟩;go_wp2_with fail
 go_loopw [1,6] (fun i x wr=>∃k:Nat,k≤n∧i=.int .i64 (k:Int)∧x=.int .u64 ((bv ((T.drop c).take (n - k)):Nat):Int)∧Rr wr g (c+(n - k)) s∧Kept (fun k=>k=g) w1 wr) (fun i _ _=>(intOf i).toNat)
 case atStart=>exact ⟨n,Nat.le_refl _,rfl,by simp [bv],by simpa using HR.out.drew,(Kept.refl _ _).drew⟩
 case round=>
  obtain ⟨k,hk,rfl,rfl,hr,EB⟩:=hrel;have BU:Hid (Kept (fun k=>k=g) w1 wr):=EB;clear EB;by_cases IP:k=0
  ·subst IP;have hz:decide (((0:Nat):Int)>0)=false:=rfl;go_wp2
   go_ret2
   exact ⟨by simp,by simpa using hr,BU.out⟩
  ·obtain ⟨a,ha⟩:∃a,c+(n - k)=a:=⟨_,rfl⟩;obtain ⟨V,hV⟩:∃V,bv ((T.drop c).take (n - k))=V:=⟨_,rfl⟩;rw [ha] at hr;rw [hV];have hc0:=hr.c0;have hc1:=hr.c1;have hsz:=HN.out;obtain ⟨p,hp⟩:∃p,a/8=p:=⟨_,rfl⟩;have jC:=fun w0 h=>r9 g a w0 (by omega) h
   rw [hp] at jC;obtain ⟨rm,Si⟩:∃rm,8 - a%8=rm:=⟨_,rfl⟩;have hroom:=fun w0 h=>Cw g a w0 (by omega) h
   rw [Si] at hroom;have aa4:1≤rm∧rm≤8:=by omega
   obtain ⟨q,hq⟩:∃q,min k rm=q:=⟨_,rfl⟩;have Sk:1≤q∧q≤k∧q≤rm:=by omega
   have wM:=fun w0=>pG q (by omega) w0
   have uh:=fun w0 h f=>ig g a q w0 (by omega) h f
   have ac9:(if (rm:Int)<(k:Int) then (rm:Int) else (k:Int))=(q:Int):=by split <;> omega
   have aa8:(if rm<k then (rm:Int) else (k:Int))=(q:Int):=by split <;> omega
   obtain ⟨j,hj⟩:∃j,k - q=j:=⟨_,rfl⟩;obtain ⟨d,hd⟩:∃d,rm - q=d:=⟨_,rfl⟩;have hwd:=oV d (by omega);have Lf:(k:Int) - (q:Int)=(j:Int):=by omega
   have aa3:(rm:Int) - (q:Int)=(d:Int):=by omega
   have acM:(0:Int)<(k:Int):=by omega
   have hpb:p<1125899906842624:=by omega
   have tD:p<s.size:=by omega
   have p1:(0:Int)≤(p:Int):=by omega
   have p2:(p:Int)<(s.size:Int):=by omega
   have HC:Hid (c+(n - k)=a∧bv ((T.drop c).take (n - k))=V∧a/8=p∧8 - a%8=rm∧min k rm=q∧k - q=j∧rm - q=d):=⟨ha,hV,hp,Si,hq,hj,hd⟩;have HRr:Hid (Rr wr g a s):=hr;obtain ⟨y,hy⟩:∃y,(s[p]'tD).toNat=y:=⟨_,rfl⟩;have aa0:y<256:=by rw [←hy];exact UInt8.toNat_lt _
   have hwy:IntKind.u64.wrap ((s[p]'tD).toNat:Int)=(y:Int):=by rw [hy,IntKind.wrap_u64];omega
   obtain ⟨t,ht⟩:∃t,y/2^d%2^q=t:=⟨_,rfl⟩;have htq:t<2^q:=by rw [←ht];exact Nat.mod_lt _ (Nat.two_pow_pos _)
   have hand:bits .and .u64 ((y:Int)/2^d) ((2^q - 1:Nat):Int)=(t:Int):=by
    have:=RA (y/2^d) q (Nat.lt_of_le_of_lt (Nat.div_le_self _ _) (by omega)) (by omega);rw [ht] at this;rw [←this];simp
   obtain ⟨V2,hV2⟩:∃V2,V * 2^q=V2:=⟨_,rfl⟩
   have abp:V2<18446744073709551616:=by
    have h:=ma ((T.drop c).take (n - k));rw [hV] at h;have h':V<2^(n - k):=Nat.lt_of_lt_of_le h (Nat.pow_le_pow_right (by decide) (by simp;omega));have h3:V * 2^q<2^(n - k) * 2^q:=Nat.mul_lt_mul_of_pos_right h' (Nat.two_pow_pos q);rw [←Nat.pow_add] at h3;have h4:2^(n - k+q)≤2^64:=Nat.pow_le_pow_right (by decide) (by omega);omega
   have acZ:=Cn V q V2 hV2 abp
   have acV:t<18446744073709551616:=by
    have h4:2^q≤2^8:=Nat.pow_le_pow_right (by decide) (by omega);omega
   have Wp:=acv q V2 t (by rw [←hV2];exact Nat.mul_mod_left _ _) htq abp acV
   have HV:Hid (bv ((T.drop c).take (n - j))=V2+t):=by
    have:=EZ s c n k q a p d ha hp (by omega) (by omega) Sk.2.1 hk HN.out tD;rw [HT.out,hj,hV,hy,ht,hV2] at this;exact this
   obtain ⟨V3,hV3⟩:∃V3,V2+t=V3:=⟨_,rfl⟩;rw [hV3] at Wp HV;clear ha hV hp Si hq hj hd hr hsz hy ht hV2 hV3 htq;have HQ0:Hid (wr.drew.cell? ⟨g,0,none⟩=some (.int .i64 (a:Int))):=hc0;have HQ1:Hid (wr.drew.frozen? ⟨g,0,none⟩=false):=HRr.out.drew.fr 0;go_wp2_with fail
   refine (hroom _ hc0).mono ?_;rintro e w3 ⟨rfl,rfl⟩;go_wp2_with fail
   go_region_held3 (fun w'=>w'.cell? ⟨g,0,none⟩=some (.int .i64 (a:Int))∧w'.cell? ⟨g,1,none⟩=some (.string s)) (go_keep) (first | (go_at_call 216;refine (hroom _ ?_).mono ?_;(simp [*]);rintro e w' ⟨rfl,rfl⟩) | (go_at_call 215;refine (jC _ ?_).mono ?_;(simp [*]);rintro e w' ⟨rfl,rfl⟩) | (go_at_call 217;refine (wM _).mono ?_;rintro e w' ⟨rfl,rfl⟩))
   all_goals go_wp2_with fail
   all_goals refine (uh _ HQ0.out HQ1.out).mono ?_
   all_goals rintro e w4 ⟨rfl,rfl⟩
   all_goals go_wp2_with fail
   all_goals go_roundw
   all_goals first
    | (case rel=>exact ⟨j,by have:=HC.out;omega,rfl,by rw [HV.out],by have e:c+(n - j)=a+q:=(by have:=HC.out;omega);rw [e];exact (HRr.out.step q (by have:=HC.out;have:=HN.out;omega)).drew,(BU.out.setCell (p:=⟨g,0,none⟩) (fun _=>rfl) _).drew⟩)
    | (case measure=>simp [intOf];have:=HC.out;omega)
end Go.Proofs.YtanaapfobpgibaaGreatDoor.Bt
