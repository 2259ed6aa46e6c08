/- BitMath, BitA, BitK, BitTake, joined. -/
import Derived.WalkKit
import Derived.ProofKit
import Derived.Laws.Bits64
import Derived.Below
import Derived.WalkSpells
import Derived.Deep.RegionHeld3
import Derived.Test.YtoimkngkcliinaaGreatDoorChecked
import Derived.LoopTactic
import Derived.Maps.AppendAt
import Derived.Laws.OwnMore
import Derived.Deep.AppendLies
import Derived.Laws.BitsAllLaws
import Derived.Deep.RegionWith
import Derived.Deep.DrawnRows
namespace Go.Proofs.YtoimkngkcliinaaGreatDoor.Bt
open Go.RowKit
def bv:List Bool→Nat
 | []=>0
 | b::l=>b.toNat * 2^l.length+bv l
def bo (v:Nat):Nat→List Bool
 | 0=>[]
 | n+1=>decide (v/2^n%2=1)::bo v n
@[simp] theorem bo_length (v n:Nat):(bo v n).length=n:=by induction n with
 | zero=>rfl
 | succ n ih=>simp [bo,ih]
theorem bv_lt:∀l:List Bool,bv l<2^l.length
 | []=>by simp [bv]
 | b::l=>by
  have:=bv_lt l;have hb:b.toNat≤1:=by cases b <;> simp
  have h2:b.toNat * 2^l.length≤1 * 2^l.length:=Nat.mul_le_mul_right _ hb;simp only [bv,List.length_cons,Nat.pow_succ];omega
theorem bv_append (a b:List Bool):bv (a++b)=bv a * 2^b.length+bv b:=by
 induction a with
 | nil=>simp [bv]
 | cons x a ih=>simp only [List.cons_append,bv,ih,List.length_append,Nat.pow_add,Nat.add_mul,Nat.mul_assoc];omega
theorem bv_inj:∀(a b:List Bool),a.length=b.length→bv a=bv b→a=b
 | [],[],_,_=>rfl
 | [],b::l,h,_=>by simp at h
 | b::l,[],h,_=>by simp at h
 | x::a,y::b,h,e=>by
  simp at h;have ha:=bv_lt a;have hb:=bv_lt b;simp only [bv,h] at e;rw [h] at ha
  have hxy:x=y:=by
   cases x <;> cases y <;> simp at e <;> first | rfl | omega
  subst hxy;rw [bv_inj a b h (by omega)]
theorem bv_bo (v n:Nat):bv (bo v n)=v%2^n:=by
 induction n with
 | zero=>simp [bo,bv,Nat.mod_one]
 | succ n ih=>
  simp only [bo,bv,bo_length,ih]
  have h:(decide (v/2^n%2=1)).toNat=v/2^n%2:=by
   have:v/2^n%2<2:=Nat.mod_lt _ (by decide);by_cases h:v/2^n%2=1
   ·simp [h]
   ·have:v/2^n%2=0:=by omega
    simp [this]
  rw [h,Nat.pow_succ,Nat.mod_mul,Nat.mul_comm];omega
theorem bo_bv (l:List Bool):bo (bv l) l.length=l:=
 bv_inj _ _ (by simp) (by rw [bv_bo,Nat.mod_eq_of_lt (bv_lt l)])
theorem bo_eq {v n:Nat} {l:List Bool} (hl:l.length=n) (h:bv l=v%2^n):bo v n=l:=bv_inj _ _ (by simp [hl]) (by rw [bv_bo,h])
theorem bo_mod (v n:Nat):bo (v%2^n) n=bo v n:=bv_inj _ _ (by simp) (by rw [bv_bo,bv_bo,Nat.mod_mod])
theorem bo_split (v a b:Nat):bo v (a+b)=bo (v/2^b) a++bo v b:=by
 refine bv_inj _ _ (by simp) ?_;rw [bv_append,bv_bo,bv_bo,bv_bo,bo_length,Nat.add_comm a b,Nat.pow_add,Nat.mod_mul,Nat.mul_comm];omega
theorem bo_one (v n:Nat):bo v (n+1)=bo (v/2) n++[decide (v%2=1)]:=by
 rw [bo_split v n 1];simp [bo]
/- The middle of a row of bits. -/
theorem bv_mid (a m z:List Bool):bv m=bv (a++m++z)/2^z.length%2^m.length:=by
 rw [bv_append,bv_append];have hz:=bv_lt z;have hm:=bv_lt m;rw [Nat.mul_comm,Nat.mul_add_div (Nat.two_pow_pos _),Nat.div_eq_of_lt hz,Nat.add_zero,Nat.mul_comm,Nat.mul_add_mod,Nat.mod_eq_of_lt hm]
theorem bv_mid' (l:List Bool) (c n:Nat) (h:c+n≤l.length):bv ((l.drop c).take n)=bv l/2^(l.length - c - n)%2^n:=by
 have e:l=l.take c++(l.drop c).take n++l.drop (c+n):=by
  rw [List.append_assoc,←List.drop_drop,List.take_append_drop,List.take_append_drop]
 have:=bv_mid (l.take c) ((l.drop c).take n) (l.drop (c+n));rw [←e] at this;have h1:((l.drop c).take n).length=n:=by simp;omega
 have h2:(l.drop (c+n)).length=l.length - c - n:=by simp;omega
 rw [h1,h2] at this;exact this
theorem bv_zero_iff (l:List Bool):bv l=0↔l=List.replicate l.length false:=by
 have h0:∀n,bv (List.replicate n false)=0:=fun n=>by
  induction n with
  | zero=>rfl
  | succ n ih=>simp [List.replicate_succ,bv,ih]
 constructor
 ·intro h;exact bv_inj _ _ (by simp) (by rw [h,h0])
 ·intro h;rw [h];exact h0 _
/- One byte of a row of bits, noughts behind it. -/
def by8 (t:List Bool):Nat:=bv (t.take 8) * 2^(8 - min 8 t.length)
def pkn (l:List Bool) (n:Nat):List Nat:=(List.range n).map fun i=>by8 (l.drop (8 * i))
def pk (l:List Bool):List Nat:=pkn l ((l.length+7)/8)
@[simp] theorem pkn_length (l:List Bool) (n:Nat):(pkn l n).length=n:=by simp [pkn]
theorem pk_length (l:List Bool):(pk l).length=(l.length+7)/8:=by simp [pk]
theorem pkn_get (l:List Bool) (n i:Nat) (hi:i<n):(pkn l n)[i]? =some (by8 (l.drop (8 * i))):=by simp [pkn,hi]
theorem pkn_succ (l:List Bool) (n:Nat):pkn l (n+1)=pkn l n++[by8 (l.drop (8 * n))]:=by simp [pkn,List.range_succ]
theorem by8_lt (t:List Bool):by8 t<256:=by
 unfold by8;have h:=bv_lt (t.take 8);rw [List.length_take] at h;have e:256=2^(min 8 t.length) * 2^(8 - min 8 t.length):=by rw [←Nat.pow_add,show min 8 t.length+(8 - min 8 t.length)=8 by omega]
 rw [e];exact Nat.mul_lt_mul_of_pos_right h (Nat.two_pow_pos _)
theorem by8_nil:by8 []=0:=by simp [by8,bv]
theorem by8_short (t:List Bool) (h:t.length≤8):by8 t=bv t * 2^(8 - t.length):=by
 unfold by8;rw [List.take_of_length_le h,Nat.min_eq_right h]
theorem by8_long (t b:List Bool) (h:8≤t.length):by8 (t++b)=by8 t:=by
 unfold by8;rw [List.take_append_of_le_length h,Nat.min_eq_left h,Nat.min_eq_left (by simp;omega)]
theorem pk_full {l:List Bool} (h:l.length%8=0):pkn l (l.length/8+1)=pk l++[0]:=by
 rw [pkn_succ,pk,show (l.length+7)/8=l.length/8 by omega,show 8 * (l.length/8)=l.length by omega];simp [by8_nil]
theorem pk_part {l:List Bool} (h:l.length%8≠0):pkn l (l.length/8+1)=pk l:=by
 rw [pk,show (l.length+7)/8=l.length/8+1 by omega]
/- Some bits more, within the last byte. -/
theorem pk_more (l b:List Bool) (h1:1≤b.length) (h2:b.length≤8 - l.length%8) (x:Nat)
  (hx:x=by8 (l.drop (8 * (l.length/8)))+bv b * 2^(8 - l.length%8 - b.length)):pk (l++b)=(pkn l (l.length/8+1)).set (l.length/8) x:=by
 have hn:((l++b).length+7)/8=l.length/8+1:=by simp;omega
 rw [pk,hn];apply List.ext_getElem?
 intro i;rcases Nat.lt_trichotomy i (l.length/8) with h | h | h
 ·rw [pkn_get _ _ _ (by omega),List.getElem?_set_ne (by omega),pkn_get _ _ _ (by omega),List.drop_append_of_le_length (by omega),by8_long _ _ (by simp;omega)]
 ·subst h;rw [pkn_get _ _ _ (by omega),List.getElem?_set_self (by simp),List.drop_append_of_le_length (by omega)];have ht:(l.drop (8 * (l.length/8))).length=l.length%8:=by simp;omega
  rw [by8_short _ (by simp;omega),hx,by8_short _ (by omega),bv_append,List.length_append,ht,Nat.add_mul,Nat.mul_assoc,←Nat.pow_add]
  congr 3
  ·rw [show b.length+(8 - (l.length%8+b.length))=8 - l.length%8 by omega]
  ·rw [Nat.sub_sub]
 ·rw [List.getElem?_eq_none (by simp;omega),List.getElem?_eq_none (by simp;omega)]
/- The bits of bytes. -/
def tb (s:List Nat):List Bool:=s.flatMap fun b=>bo b 8
@[simp] theorem tb_length (s:List Nat):(tb s).length=8 * s.length:=by
 induction s with
 | nil=>rfl
 | cons x s ih=>
  show (bo x 8++tb s).length=_
  rw [List.length_append,ih];simp;omega
theorem tb_append (a b:List Nat):tb (a++b)=tb a++tb b:=by simp [tb]
theorem tb_drop (s:List Nat) (i:Nat):(tb s).drop (8 * i)=tb (s.drop i):=by
 rcases Nat.lt_or_ge i s.length with h | h
 ·have e:s=s.take i++s.drop i:=by simp
  have hl:(tb (s.take i)).length=8 * i:=by rw [tb_length];simp;omega
  calc (tb s).drop (8 * i)=(tb (s.take i)++tb (s.drop i)).drop (8 * i):=by rw [←tb_append,←e]
   _=_:=by rw [←hl];exact List.drop_left' rfl
 ·rw [List.drop_eq_nil_of_le (by simp;omega),List.drop_eq_nil_of_le h];rfl
theorem tb_byte (s:List Nat) (i:Nat) (h:i<s.length):((tb s).drop (8 * i)).take 8=bo s[i] 8:=by
 rw [tb_drop,List.drop_eq_getElem_cons h];simp only [tb,List.flatMap_cons];exact List.take_left' (by simp)
theorem pk_tb (s:List Nat) (h:∀x∈s,x<256):pk (tb s)=s:=by
 apply List.ext_getElem?
 intro i;rcases Nat.lt_or_ge i s.length with hi | hi
 ·rw [pk,pkn_get _ _ _ (by simp;omega),List.getElem?_eq_getElem hi];unfold by8;rw [tb_byte s i hi,bv_bo,tb_drop,tb_length,Nat.min_eq_left (by simp;omega)];have:=h s[i] (List.getElem_mem hi);simp;omega
 ·rw [List.getElem?_eq_none hi,List.getElem?_eq_none (by rw [pk_length];simp;omega)]
/- The middle of one byte. -/
theorem tb_part (s:List Nat) (c n:Nat) (hn:n≤8 - c%8) (hc:c/8<s.length):bv (((tb s).drop c).take n)=s[c/8]/2^(8 - c%8 - n)%2^n:=by
 have e:((tb s).drop c).take n=((bo s[c/8] 8).drop (c%8)).take n:=by
  rw [←tb_byte s (c/8) hc,List.drop_take,List.drop_drop,List.take_take,Nat.min_eq_left hn,show 8 * (c/8)+c%8=c by omega]
 rw [e,bv_mid' _ _ _ (by simp;omega),bv_bo,bo_length];have h8:(2:Nat)^8=2^(8 - c%8 - n) * 2^(c%8+n):=by rw [←Nat.pow_add,show 8 - c%8 - n+(c%8+n)=8 by omega]
 rw [h8,Nat.mod_mul,Nat.add_mul_div_left _ _ (Nat.two_pow_pos _),Nat.div_eq_of_lt (Nat.mod_lt _ (Nat.two_pow_pos _)),Nat.zero_add,Nat.mod_mod_of_dvd _ (Nat.pow_dvd_pow 2 (by omega))]
theorem tb_pk (l:List Bool):tb (pk l)=l++List.replicate (8 * ((l.length+7)/8) - l.length) false:=by
 have h8:∀t:List Bool,bo (by8 t) 8=t.take 8++List.replicate (8 - min 8 t.length) false:=fun t=>by
  refine bo_eq (by simp;omega) ?_;rw [Nat.mod_eq_of_lt (by8_lt t),bv_append,(bv_zero_iff (List.replicate _ false)).2 (by simp)];simp [by8]
 have hn:∀n,n≤(l.length+7)/8→tb (pkn l n)=l.take (8 * n)++List.replicate (8 * n - l.length) false:=fun n=>by
  induction n with
  | zero=>intro _;simp [pkn,tb]
  | succ n ih=>
   intro hn;rw [pkn_succ,tb_append,ih (by omega)];have e1:8 * n - l.length=0:=by omega
   simp only [tb,List.flatMap_cons,List.flatMap_nil,List.append_nil,h8,e1,List.replicate_zero];rw [←List.append_assoc,show 8 * (n+1)=8 * n+8 by omega,List.take_add]
   congr 2
   simp;omega
 rw [pk,hn _ (Nat.le_refl _),List.take_of_length_le (by omega)]
theorem pk_lt (l:List Bool):∀x∈pk l,x<256:=by
 intro x hx;simp [pk,pkn] at hx;obtain ⟨i,_,rfl⟩:=hx;exact by8_lt _
theorem pk_pad (l:List Bool) (k:Nat) (h:(l.length+k+7)/8=(l.length+7)/8):pk (l++List.replicate k false)=pk l:=by
 unfold pk;rw [List.length_append,List.length_replicate,h];apply List.ext_getElem?
 intro i;rcases Nat.lt_or_ge i ((l.length+7)/8) with hi | hi
 ·rw [pkn_get _ _ _ hi,pkn_get _ _ _ hi,List.drop_append_of_le_length (by omega)];rcases Nat.lt_or_ge (l.drop (8 * i)).length 8 with h1 | h1
  ·have hk:(l.drop (8 * i)).length+k≤8:=by simp at h1 ⊢;omega
   rw [by8_short _ (by simpa using hk),by8_short _ (by omega),bv_append,(bv_zero_iff (List.replicate k false)).2 (by simp)];rw [Nat.add_zero,List.length_append,List.length_replicate,Nat.mul_assoc,←Nat.pow_add];rw [show k+(8 - ((l.drop (8 * i)).length+k))=8 - (l.drop (8 * i)).length by omega]
  ·rw [by8_long _ _ h1]
 ·rw [List.getElem?_eq_none (by simpa using hi),List.getElem?_eq_none (by simpa using hi)]
set_option linter.unusedVariables false
set_option maxRecDepth 4000
theorem ret_int {k:IntKind} {a b:Int} (h:a=b):Ending.returned (.int k a)=.returned (.int k b):=by rw [h]
theorem ret_bool {a b:Bool} (h:a=b):Ending.returned (.bool a)=.returned (.bool b):=by rw [h]
def Gw (n:Int):Prop:=1≤n∧n≤64
def gw (n:Int):Bool:=decide (1≤n)&&decide (n≤64)
theorem gw_yes {n:Int} (h:Gw n):gw n=true:=by simp [gw,h.1,h.2]
theorem gw_no {n:Int} (h:¬Gw n):gw n=false:=by
 rw [Bool.eq_false_iff];intro hh;simp [gw] at hh;exact h hh
theorem goodWidth_any (n:Int) (w:World):Calls Tryz.prog 328 #[.int .i64 n] w fun e w'=>e=.returned (.bool (gw n))∧w'=w:=by
 by_cases h1:1≤n
 ·by_cases h2:n≤64
  ·go_enter Tryz.func328,Tryz.ntmps328;go_wp2
   go_ret;exact ⟨ret_bool (by simp [gw,h1,h2]),rfl⟩
  ·go_enter Tryz.func328,Tryz.ntmps328;go_wp2
   go_ret;exact ⟨ret_bool (by simp [gw,h1,h2]),rfl⟩
 ·go_enter Tryz.func328,Tryz.ntmps328;go_wp2
  go_ret;exact ⟨ret_bool (by simp [gw];omega),rfl⟩
theorem lowest_any (n:Nat) (hn:n≤8) (w:World):Calls Tryz.prog 290 #[.int .i64 (n:Int)] w fun e w'=>e=.returned (.int .u64 ((2^n - 1:Nat):Int))∧w'=w:=by
 have h:n=0∨n=1∨n=2∨n=3∨n=4∨n=5∨n=6∨n=7∨n=8:=by omega
 rcases h with rfl | rfl | rfl | rfl | rfl | rfl | rfl | rfl | rfl <;>
 ·go_enter Tryz.func290,Tryz.ntmps290;go_wp2
  go_ret;exact ⟨rfl,rfl⟩
theorem place_any (g c:Nat) (w:World) (hb:c<4611686018427387904) (hc:w.cell? ⟨g,0,none⟩=some (.int .i64 (c:Int))):Calls Tryz.prog 288 #[.pointer (some ⟨g,0,none⟩)] w fun e w'=>e=.returned (.int .i64 ((c/8:Nat):Int))∧w'=w:=by
 go_enter Tryz.func288,Tryz.ntmps288;go_wp2
 go_ret;exact ⟨ret_int (by omega),rfl⟩
theorem room_any (g c:Nat) (w:World) (hb:c<4611686018427387904) (hc:w.cell? ⟨g,0,none⟩=some (.int .i64 (c:Int))):Calls Tryz.prog 289 #[.pointer (some ⟨g,0,none⟩)] w fun e w'=>e=.returned (.int .i64 ((8 - c%8:Nat):Int))∧w'=w:=by
 go_enter Tryz.func289,Tryz.ntmps289;go_wp2
 go_ret;exact ⟨ret_int (by omega),rfl⟩
theorem add_any (g c n:Nat) (w:World) (hs:c+n<4611686018427387904) (hc:w.cell? ⟨g,0,none⟩=some (.int .i64 (c:Int))) (hf:w.frozen? ⟨g,0,none⟩=false):Calls Tryz.prog 291 #[.pointer (some ⟨g,0,none⟩),.int .i64 (n:Int)] w fun e w'=>e=.returned (.tuple #[])∧w'=w.setCell ⟨g,0,none⟩ (.int .i64 ((c+n:Nat):Int)):=by
 go_enter Tryz.func291,Tryz.ntmps291;go_wp2
 go_end0
 exact ⟨rfl,by simp⟩
theorem div_zero_iff (v k:Nat):((v:Int)/2^k==0)=decide (v<2^k):=by
 have e:(v:Int)/2^k=((v/2^k:Nat):Int):=by simp
 rw [e];have h:=Nat.two_pow_pos k;by_cases hv:v<2^k
 ·simp [hv,Nat.div_eq_of_lt hv]
 ·have:0<v/2^k:=Nat.div_pos (by omega) h;simp [hv];omega
theorem right_any (v:Nat) (n:Int) (w:World) (hv:v<18446744073709551616):Calls Tryz.prog 287 #[.int .u64 (v:Int),.int .i64 n] w fun e w'=>e=.returned (.bool (gw n&&decide (v<2^n.toNat)))∧w'=w:=by
 by_cases h:Gw n
 ·obtain ⟨h1,h2⟩:=id h;have hg:=gw_yes h;go_enter Tryz.func287,Tryz.ntmps287;go_wp2_with (go_at_call 328;refine (goodWidth_any _ _).mono ?_;rintro e w' ⟨rfl,rfl⟩)
  go_ret;exact ⟨ret_bool (by rw [hg,div_zero_iff];rfl),rfl⟩
 ·have hg:=gw_no h;go_enter Tryz.func287,Tryz.ntmps287;go_wp2_with (go_at_call 328;refine (goodWidth_any _ _).mono ?_;rintro e w' ⟨rfl,rfl⟩)
  go_ret;exact ⟨ret_bool (by simp [hg]),rfl⟩
theorem new_any (w:World):Calls Tryz.prog 162 #[] w fun e w'=>e=.returned (.pointer (some ⟨w.heap.size,0,none⟩))∧w'=w.alloc (.cells #[.int .i64 0,.slice none 0 0] 342):=by
 go_enter Tryz.func162,Tryz.ntmps162;go_wp2
 go_ret;exact ⟨rfl,rfl⟩
theorem read_any (s:ByteArray) (w:World):Calls Tryz.prog 206 #[.string s] w fun e w'=>e=.returned (.pointer (some ⟨w.heap.size,0,none⟩))∧w'=w.alloc (.cells #[.int .i64 0,.string s] 383):=by
 go_enter Tryz.func206,Tryz.ntmps206;go_wp2
 go_ret;exact ⟨rfl,rfl⟩
open Go.RowKit Go.Maps
structure Kept (F:Nat→Prop) (w w':World):Prop where
 os:w'.os=w.os
 tape:w'.tape=w.tape
 output:w'.output=w.output
 size:w.heap.size≤w'.heap.size
 block:∀k,k<w.heap.size→¬F k→w'.heap[k]? =w.heap[k]?
theorem Kept.refl (F:Nat→Prop) (w:World):Kept F w w:=⟨rfl,rfl,rfl,Nat.le_refl _,fun _ _ _=>rfl⟩
theorem Kept.trans {F F':Nat→Prop} {a b c:World} (h:Kept F a b) (k:Kept F' b c) (hF:∀i,i<a.heap.size→F' i→F i):Kept F a c:=
 ⟨k.os.trans h.os,k.tape.trans h.tape,k.output.trans h.output,Nat.le_trans h.size k.size,fun i hi hn=>(k.block i (Nat.lt_of_lt_of_le hi h.size) (fun h'=>hn (hF i hi h'))).trans (h.block i hi hn)⟩
theorem Kept.mono {F F':Nat→Prop} {a b:World} (h:Kept F a b) (hF:∀i,i<a.heap.size→F i→F' i):Kept F' a b:=⟨h.os,h.tape,h.output,h.size,fun i hi hn=>h.block i hi (fun h'=>hn (hF i hi h'))⟩
theorem Kept.drew {F:Nat→Prop} {a w:World} (h:Kept F a w):Kept F a w.drew:=⟨h.os,h.tape,h.output,h.size,h.block⟩
theorem Kept.alloc {F:Nat→Prop} {a w:World} (h:Kept F a w) (o:Obj):Kept F a (w.alloc o):=
 h.trans (F':=F) ⟨rfl,rfl,rfl,by simp,fun k hk _=>Below.heap_alloc _ _ _ hk⟩ (fun _ _ h=>h)
theorem Kept.setCell {F:Nat→Prop} {a w:World} (h:Kept F a w) {p:Addr} (hp:p.block<a.heap.size→F p.block) (u:Value):Kept F a (w.setCell p u):=
 h.trans (F':=fun k=>k=p.block) ⟨rfl,rfl,rfl,by simp [World.setCell],fun k hk hn=>Below.heap_setCell _ _ _ _ hn⟩ (fun i hi e=>by subst e;exact hp hi)
theorem Kept.grown {F:Nat→Prop} {a w w':World} {row:Option Nat} (h:Kept F a w) (hg:w.grownBy w' row) (hr:∀k,row=some k→k<a.heap.size→F k):Kept F a w':=
 h.trans (F':=fun k=>row=some k) ⟨hg.os,hg.tape,hg.output,hg.size,fun k hk hn=>hg.block k hk (fun e=>hn e.symm)⟩ (fun i hi e=>hr i e hi)
theorem Kept.ofBelow {F:Nat→Prop} {w w':World} (h:Below w.heap.size w w'):Kept F w w':=⟨h.os,h.tape,h.output,h.size,fun k hk _=>h.block k hk⟩
theorem Kept.below {F:Nat→Prop} {w w':World} {B:Nat} (h:Kept F w w') (hB:B≤w.heap.size) (hF:∀k,F k→B≤k):Below B w w':=
 ⟨h.os,h.tape,h.output,h.size,fun k hk=>h.block k (by omega) (fun e=>by have:=hF k e;omega)⟩
theorem Kept.cell {F:Nat→Prop} {w w':World} (h:Kept F w w') {a:Addr} {v:Value} (hc:w.cell? a=some v) (hn:¬F a.block):w'.cell? a=some v:=
 (World.cell?_of_block (h.block a.block (World.block_lt_of_cell? w a hc) hn)).trans hc
theorem Kept.row {F:Nat→Prop} {w w':World} {base e size n:Nat} {v:Value} {xs:List Value} (h:Kept F w w') (hr:w.ownsRow base e size v n xs) (hn:∀k,v.ownBlock=some k→¬F k):w'.ownsRow base e size v n xs:=by
 refine ⟨hr.1,?_⟩;rcases hr.2 with h0 | ⟨g,cap,cur,rfl,hb,hgg,rest⟩
 ·exact .inl h0
 ·refine .inr ⟨g,cap,cur,rfl,hb,?_,rest⟩;rw [h.block g (Array.getElem?_eq_some_iff.1 hgg).1 (hn g rfl)];exact hgg
def u8s (l:List Nat):List Value:=l.map fun n:Nat=>Value.int .u8 (n:Int)
@[simp] theorem u8s_length (l:List Nat):(u8s l).length=l.length:=by simp [u8s]
theorem u8s_append (a b:List Nat):u8s (a++b)=u8s a++u8s b:=by simp [u8s]
theorem u8s_set (l:List Nat) (i x:Nat):(u8s l).set i (.int .u8 (x:Int))=u8s (l.set i x):=by simp [u8s,List.map_set]
theorem info8:(Tryz.prog.info? 5).map (fun i=>(i.zero,i.size,i.bytes))=some (some (.int .u8 0),1,1):=by kernel_rfl
/- A writer in memory: the bits l; v: its bytes' slice. -/
structure Wr (B:Nat) (w:World) (g:Nat) (l:List Bool) (v:Value):Prop where
 blk:w.heap[g]? =some (.cells #[.int .i64 (l.length:Int),v] 342)
 row:w.ownsRow B 5 1 v (pk l).length (u8s (pk l))
 lt:g<B
def Fw (g:Nat) (v:Value) (k:Nat):Prop:=k=g∨v.ownBlock=some k
theorem Wr.spell {B:Nat} {w:World} {g:Nat} {l:List Bool} {v:Value} (h:Wr B w g l v):∃a cap,v=.slice a (pk l).length cap:=by
 rcases h.row.2 with ⟨h0,h1⟩ | ⟨r,cap,cur,hv,_⟩
 ·exact ⟨none,0,by rw [h0,h1]⟩
 ·exact ⟨_,cap,hv⟩
theorem Wr.c0 {B:Nat} {w:World} {g:Nat} {l:List Bool} {v:Value} (h:Wr B w g l v):w.cell? ⟨g,0,none⟩=some (.int .i64 (l.length:Int)):=by simp [World.cell?,h.blk]
theorem Wr.c1 {B:Nat} {w:World} {g:Nat} {l:List Bool} {v:Value} (h:Wr B w g l v):w.cell? ⟨g,1,none⟩=some v:=by simp [World.cell?,h.blk]
theorem Wr.fr {B:Nat} {w:World} {g:Nat} {l:List Bool} {v:Value} (h:Wr B w g l v) (j:Nat):w.frozen? ⟨g,j,none⟩=false:=by simp [World.frozen?,h.blk]
theorem Wr.kept {B:Nat} {w w':World} {g:Nat} {l:List Bool} {v:Value} (h:Wr B w g l v) {F:Nat→Prop} (hk:Kept F w w') (hF:∀k,Fw g v k→¬F k):Wr B w' g l v:=
 ⟨(hk.block g (Array.getElem?_eq_some_iff.1 h.blk).1 (hF g (.inl rfl))).trans h.blk,hk.row h.row (fun k hv=>hF k (.inr hv)),h.lt⟩
theorem Wr.inHeap {B:Nat} {w:World} {g:Nat} {l:List Bool} {v:Value} (h:Wr B w g l v):∀k,Fw g v k→k<w.heap.size:=fun k hk=>by
 rcases hk with rfl | hk
 ·exact (Array.getElem?_eq_some_iff.1 h.blk).1
 ·exact (h.row.lt k hk).2
theorem Wr.new (w:World):Wr (w.heap.size+1) (w.alloc (.cells #[.int .i64 0,.slice none 0 0] 342)) w.heap.size [] (.slice none 0 0):=
 ⟨heap_alloc_new w _,World.ownsRow_nil _ _ _ _,Nat.lt_succ_self _⟩
theorem blk_set {w:World} {g i:Nat} {cs:Array Value} {t:TypeId} (h:w.heap[g]? =some (.cells cs t)) (v:Value):(w.setCell ⟨g,i,none⟩ v).heap[g]? =some (.cells (cs.setIfInBounds i v) t):=heap_setCell_same w g i cs t v h
/- A writer whose last byte is there, its bits not yet. -/
structure Wm (B:Nat) (w:World) (g:Nat) (l:List Bool) (r p cap:Nat):Prop where
 blk:w.heap[g]? =some (.cells #[.int .i64 (l.length:Int),.slice (some ⟨r,0,none⟩) (p+1) cap] 342)
 row:w.ownsRow B 5 1 (.slice (some ⟨r,0,none⟩) (p+1) cap) (p+1) (u8s (pkn l (p+1)))
 lt:g<B
 at':l.length/8=p
theorem Wm.c0 {B:Nat} {w:World} {g:Nat} {l:List Bool} {r p cap:Nat} (h:Wm B w g l r p cap):w.cell? ⟨g,0,none⟩=some (.int .i64 (l.length:Int)):=by simp [World.cell?,h.blk]
theorem Wm.c1 {B:Nat} {w:World} {g:Nat} {l:List Bool} {r p cap:Nat} (h:Wm B w g l r p cap):w.cell? ⟨g,1,none⟩=some (.slice (some ⟨r,0,none⟩) (p+1) cap):=by simp [World.cell?,h.blk]
theorem Wm.fr {B:Nat} {w:World} {g:Nat} {l:List Bool} {r p cap:Nat} (h:Wm B w g l r p cap) (j:Nat):w.frozen? ⟨g,j,none⟩=false:=by simp [World.frozen?,h.blk]
theorem Wm.ge {B:Nat} {w:World} {g:Nat} {l:List Bool} {r p cap:Nat} (h:Wm B w g l r p cap):B≤r:=(h.row.lt r rfl).1
theorem Wm.cp {B:Nat} {w:World} {g:Nat} {l:List Bool} {r p cap:Nat} (h:Wm B w g l r p cap):w.cell? ⟨r,p,none⟩=some (.int .u8 (by8 (l.drop (8 * p)):Nat)):=by
 rw [h.row.cellAt p (by omega)];simp only [u8s,List.getElem?_map,pkn_get l (p+1) p (by omega),Option.map_some]
theorem Wm.fp {B:Nat} {w:World} {g:Nat} {l:List Bool} {r p cap:Nat} (h:Wm B w g l r p cap):w.frozen? ⟨r,p,none⟩=false:=h.row.frozenAt p
theorem Wm.drew {B:Nat} {w:World} {g:Nat} {l:List Bool} {r p cap:Nat} (h:Wm B w g l r p cap):Wm B w.drew g l r p cap:=⟨h.blk,h.row,h.lt,h.at'⟩
theorem Wr.drew {B:Nat} {w:World} {g:Nat} {l:List Bool} {v:Value} (h:Wr B w g l v):Wr B w.drew g l v:=⟨h.blk,h.row,h.lt⟩
theorem Wr.grown {B:Nat} {w w1:World} {g p r cap:Nat} {l:List Bool} {a:Option Addr} {n cap0:Nat} (h:Wr B w g l (.slice a n cap0)) (hp:l.length/8=p) (h0:l.length%8=0)
  (hr:w1.ownsRow B 5 1 (.slice (some ⟨r,0,none⟩) (p+1) cap) (p+1) (u8s (pk l)++[.int .u8 0])) (hg:w.grownBy w1 (Value.slice a n cap0).ownBlock):
  Wm B (w1.setCell ⟨g,1,none⟩ (.slice (some ⟨r,0,none⟩) (p+1) cap)) g l r p cap:=by
 have hb:w1.heap[g]? =some (.cells #[.int .i64 (l.length:Int),.slice a n cap0] 342):=by
  rw [hg.block g (Array.getElem?_eq_some_iff.1 h.blk).1 (fun e=>by have:=(h.row.lt g e.symm).1;have:=h.lt;omega)];exact h.blk
 have hb2:=blk_set (i:=1) hb (.slice (some ⟨r,0,none⟩) (p+1) cap);refine ⟨by rw [hb2];simp,?_,h.lt,hp⟩;have hbr:=(hr.lt r rfl).1;have hlt:=h.lt;have e:u8s (pk l)++[.int .u8 0]=u8s (pkn l (p+1)):=by rw [←hp,pk_full h0,u8s_append];rfl
 rw [e] at hr;exact (Kept.refl (fun k=>k=g) w1).setCell (p:=⟨g,1,none⟩) (fun _=>rfl) _ |>.row hr (fun k hk e=>by cases hk;have e':r=g:=e;omega)
theorem Wr.part {B:Nat} {w:World} {g:Nat} {l:List Bool} {v:Value} (h:Wr B w g l v) (h0:l.length%8≠0):∃r cap,v=.slice (some ⟨r,0,none⟩) (l.length/8+1) cap∧Wm B w g l r (l.length/8) cap:=by
 have hl:(pk l).length=l.length/8+1:=by rw [pk_length];omega
 rcases h.row.2 with ⟨_,h1⟩ | ⟨r,cap,cur,hv,_⟩
 ·omega
 ·rw [hl] at hv;subst hv;have hr:=h.row;rw [hl,←pk_part h0] at hr;exact ⟨r,cap,rfl,h.blk,hr,h.lt,rfl⟩
/- The bits are put. -/
theorem Wm.fin {B:Nat} {w:World} {g:Nat} {l b:List Bool} {r p cap x c:Nat} (h:Wm B w g l r p cap) (h1:1≤b.length) (h2:b.length≤8 - l.length%8)
  (hx:x=by8 (l.drop (8 * p))+bv b * 2^(8 - l.length%8 - b.length)) (hc:c=l.length+b.length):
  Wr B ((w.setCell ⟨r,p,none⟩ (.int .u8 (x:Int))).setCell ⟨g,0,none⟩ (.int .i64 (c:Int))) g (l++b) (.slice (some ⟨r,0,none⟩) (p+1) cap):=by
 obtain ⟨s1,s2⟩:=h.row.stored p (.int .u8 (x:Int));have hge:=h.ge;have hlt:=h.lt;have hp:=h.at'
 have hb:(w.setCell ⟨r,p,none⟩ (.int .u8 (x:Int))).heap[g]? =some (.cells #[.int .i64 (l.length:Int),.slice (some ⟨r,0,none⟩) (p+1) cap] 342):=by
  rw [Below.heap_setCell _ _ _ _ (by show g≠r;omega)];exact h.blk
 have e:pk (l++b)=(pkn l (p+1)).set p x:=by
  subst hp;exact pk_more l b h1 h2 x hx
 have hlen:(pk (l++b)).length=p+1:=by rw [e];simp
 refine ⟨by rw [blk_set hb,hc];simp,?_,h.lt⟩;rw [hlen,e,←u8s_set];exact (Kept.refl (fun k=>k=g) _).setCell (p:=⟨g,0,none⟩) (fun _=>rfl) _ |>.row s1 (fun k hk e=>by cases hk;have e':r=g:=e;omega)
theorem Wr.alloc {B:Nat} {w:World} {g:Nat} {l:List Bool} {v:Value} (h:Wr B w g l v) (o:Obj):Wr B (w.alloc o) g l v:=h.kept ((Kept.refl (fun _=>False) w).alloc o) (fun _ _ h=>h)
theorem Wr.far {B:Nat} {w w1:World} {g:Nat} {l:List Bool} {v:Value} (h:Wr B w g l v) (hg:w.grownBy w1 v.ownBlock):w1.cell? ⟨g,1,none⟩=some v∧w1.frozen? ⟨g,1,none⟩=false:=by
 have hb:=hg.block g (Array.getElem?_eq_some_iff.1 h.blk).1 (fun e=>by have:=(h.row.lt g e.symm).1;have:=h.lt;omega);exact ⟨(World.cell?_of_block hb).trans h.c1,(World.frozen?_of_block hb).trans (h.fr 1)⟩
theorem wrap64_nat (d:Nat) (h:d<4611686018427387904):IntKind.i64.wrap (d:Int)=(d:Int):=by simp [IntKind.wrap,IntKind.bits,IntKind.signed];omega
theorem shl_wrap (t d z:Nat) (hz:t * 2^d=z) (h:z<18446744073709551616):IntKind.u64.wrap ((t:Int) * 2^d)=(z:Int):=by
 have e2:(t:Int) * 2^d=(z:Int):=by rw [←hz];simp
 rw [e2,IntKind.wrap_u64];omega
/- A round of Put. -/
theorem Wm.fin2 {B:Nat} {w:World} {g:Nat} {l L:List Bool} {r p cap v n k j q t d z y yz c rm:Nat} (h:Wm B w g L r p cap) (hL:l++bo (v/2^k) (n - k)=L) (hk:k≤n) (h1:1≤q) (hqk:q≤k) (hqr:q≤rm)
  (hc:L.length=c) (hrm:8 - c%8=rm) (hj:k - q=j) (ht:v/2^j%2^q=t) (hd:rm - q=d) (hz:t * 2^d=z) (hy:by8 (L.drop (8 * p))=y) (hyz:y+z=yz):
  Wr B ((w.setCell ⟨r,p,none⟩ (.int .u8 (yz:Int))).setCell ⟨g,0,none⟩ (.int .i64 ((c:Int)+(q:Int)))) g (l++bo (v/2^j) (n - j)) (.slice (some ⟨r,0,none⟩) (p+1) cap):=by
 rw [show (c:Int)+(q:Int)=((c+q:Nat):Int) by simp]
 have e:l++bo (v/2^j) (n - j)=L++bo (v/2^j) q:=by
  rw [show n - j=(n - k)+q by omega,bo_split,Nat.div_div_eq_div_mul,←Nat.pow_add,show j+q=k by omega,←List.append_assoc,hL]
 rw [e];refine h.fin (by simpa using h1) (by simp;omega) ?_ (by rw [hc];simp);rw [bv_bo,ht,hy,bo_length,hc,hrm,hd,hz,hyz]
theorem cell_one_at (w:World) (x:Value) (t:TypeId) (n:Nat) (hn:n=w.heap.size):∀j u,[x][j]? =some u→(w.alloc (.cells #[x] t)).cell? ((⟨n,0,none⟩:Addr).add j)=some u:=by
 subst hn;intro j u hj
 match j,hj with
 | 0,hj=>simp at hj;subst hj;simp [Addr.add,go_sem]
theorem or8 (p x y:Nat) (hx:x%2^p=0) (hy:y<2^p) (h1:x<256) (h2:y<256):bits .or .u8 (x:Int) (y:Int)=((x+y:Nat):Int):=by
 rw [u8_or_nat x y h1 h2,nat_join p x y hx hy]
theorem and64 (v n:Nat) (hv:v<18446744073709551616) (hn:n≤8):bits .and .u64 (v:Int) ((2^n - 1:Nat):Int)=((v%2^n:Nat):Int):=by
 have:2^n≤2^8:=Nat.pow_le_pow_right (by decide) hn;rw [u64_and_nat v (2^n - 1) hv (by omega),Nat.and_two_pow_sub_one_eq_mod]
attribute [local go_sem ↓] Go.wp_at_zero Go.wp_at_succ
theorem wrap_fit (x:Int) (h1: -9223372036854775808≤x) (h2:x≤9223372036854775807):IntKind.i64.wrap x=x:=by simp [IntKind.wrap,IntKind.bits,IntKind.signed];omega
/- The bytes of a text, as numbers. -/
def bys (s:ByteArray):List Nat:=s.data.toList.map fun b=>b.toNat
theorem bys_length (s:ByteArray):(bys s).length=s.size:=by simp [bys]
/- A reader in memory: at place c of the text s. -/
structure Rr (w:World) (g:Nat) (c:Nat) (s:ByteArray):Prop where
 blk:w.heap[g]? =some (.cells #[.int .i64 (c:Int),.string s] 383)
 le:c≤8 * s.size
theorem Rr.c0 {w:World} {g c:Nat} {s:ByteArray} (h:Rr w g c s):w.cell? ⟨g,0,none⟩=some (.int .i64 (c:Int)):=by simp [World.cell?,h.blk]
theorem Rr.c1 {w:World} {g c:Nat} {s:ByteArray} (h:Rr w g c s):w.cell? ⟨g,1,none⟩=some (.string s):=by simp [World.cell?,h.blk]
theorem Rr.fr {w:World} {g c:Nat} {s:ByteArray} (h:Rr w g c s) (j:Nat):w.frozen? ⟨g,j,none⟩=false:=by simp [World.frozen?,h.blk]
theorem Rr.drew {w:World} {g c:Nat} {s:ByteArray} (h:Rr w g c s):Rr w.drew g c s:=⟨h.blk,h.le⟩
theorem Rr.kept {w w':World} {g c:Nat} {s:ByteArray} (h:Rr w g c s) {F:Nat→Prop} (hk:Kept F w w') (hF:¬F g):Rr w' g c s:=
 ⟨(hk.block g (Array.getElem?_eq_some_iff.1 h.blk).1 hF).trans h.blk,h.le⟩
theorem Rr.new (w:World) (s:ByteArray):Rr (w.alloc (.cells #[.int .i64 0,.string s] 383)) w.heap.size 0 s:=⟨heap_alloc_new w _,Nat.zero_le _⟩
theorem Rr.step {w:World} {g c:Nat} {s:ByteArray} (h:Rr w g c s) (q:Nat) (hq:c+q≤8 * s.size):Rr (w.setCell ⟨g,0,none⟩ (.int .i64 ((c:Int)+(q:Int)))) g (c+q) s:=by
 refine ⟨?_,hq⟩;rw [blk_set h.blk];simp
theorem or64 (q V2 t:Nat) (h0:V2%2^q=0) (ht:t<2^q) (h1:V2<18446744073709551616) (h2:t<18446744073709551616):bits .or .u64 (V2:Int) (t:Int)=((V2+t:Nat):Int):=by
 rw [u64_or_nat V2 t h1 h2,nat_join q V2 t h0 ht]
theorem bys_get (s:ByteArray) (p:Nat) (h:p<s.size):(bys s)[p]'(by rw [bys_length];exact h)=(s[p]'h).toNat:=by
 simp [bys];rfl
/- A round of Take. -/
theorem take_round (s:ByteArray) (c n k q a p d:Nat) (ha:c+(n - k)=a) (hp:a/8=p) (hq:q≤8 - a%8) (hd:8 - a%8 - q=d) (hqk:q≤k) (hk:k≤n) (hn:c+n≤8 * s.size) (hps:p<s.size):
  bv (((tb (bys s)).drop c).take (n - (k - q)))=bv (((tb (bys s)).drop c).take (n - k)) * 2^q+(s[p]'hps).toNat/2^d%2^q:=by
 have e:((tb (bys s)).drop c).take (n - (k - q))=((tb (bys s)).drop c).take (n - k)++((tb (bys s)).drop a).take q:=by
  rw [show n - (k - q)=(n - k)+q by omega,List.take_add,List.drop_drop,ha]
 have hl:(((tb (bys s)).drop a).take q).length=q:=by simp [bys_length];omega
 rw [e,bv_append,hl];have:=tb_part (bys s) a q hq (by rw [bys_length,hp];exact hps);rw [this,hd];subst hp;rw [bys_get s (a/8) hps]
theorem left_any (g c:Nat) (s:ByteArray) (w:World) (h:Rr w g c s) (hs:s.size<1125899906842624):Calls Tryz.prog 326 #[.pointer (some ⟨g,0,none⟩)] w fun e w'=>e=.returned (.int .i64 ((8 * s.size - c:Nat):Int))∧w'=w.drew:=by
 have h0:=h.c0;have h1:=h.c1;have hle:=h.le;obtain ⟨m,hm⟩:∃m,s.size=m:=⟨_,rfl⟩;rw [hm] at hle hs;rw [hm];go_enter Tryz.func326,Tryz.ntmps326;go_wp2_with fail
 go_region_held3 (fun w'=>w'.cell? ⟨g,0,none⟩=some (.int .i64 (c:Int))∧w'.cell? ⟨g,1,none⟩=some (.string s)) (go_keep) (fail)
 go_wp2
 go_ret;exact ⟨ret_int (by rw [wrap_fit ((m:Int) * 8) (by omega) (by omega),wrap_fit _ (by omega) (by omega)];omega),rfl⟩
/- What a row of bits has left: is it done? -/
def dn (l:List Bool) (c:Nat):Bool:=decide (l.length - c<8)&&decide (bv (l.drop c)=0)
theorem take_no (g c:Nat) (s:ByteArray) (n:Int) (w:World) (h:Rr w g c s) (hs:s.size<1125899906842624) (hn:¬(Gw n∧n≤((8 * s.size - c:Nat):Int))):
  Calls Tryz.prog 297 #[.pointer (some ⟨g,0,none⟩),.int .i64 n] w fun e w'=>e=.returned (.tuple #[.int .u64 0,.int .i64 6])∧(w'=w∨w'=w.drew):=by
 by_cases hg:Gw n
 ·have hgw:=gw_yes hg;have hl:=left_any g c s w h hs;obtain ⟨m,hm⟩:∃m,8 * s.size - c=m:=⟨_,rfl⟩;rw [hm] at hn hl
  have hlt:(m:Int)<n:=by
   rcases Int.lt_or_le (m:Int) n with h | h
   ·exact h
   ·exact absurd ⟨hg,h⟩ hn
  clear hn hm;go_enter Tryz.func297,Tryz.ntmps297;go_wp2_with fail
  refine (goodWidth_any n _).mono ?_;rintro e w1 ⟨rfl,rfl⟩;rw [hgw];go_wp2_with fail
  refine hl.mono ?_;rintro e w2 ⟨rfl,rfl⟩;go_wp2
  go_ret2
  exact ⟨rfl,.inr rfl⟩
 ·have hgw:=gw_no hg;clear hn;go_enter Tryz.func297,Tryz.ntmps297;go_wp2_with fail
  refine (goodWidth_any n _).mono ?_;rintro e w1 ⟨rfl,rfl⟩;rw [hgw];go_wp2
  go_ret2
  exact ⟨rfl,.inl rfl⟩
set_option maxHeartbeats 2000000 in
set_option maxRecDepth 100000 in
theorem take_yes (g c n:Nat) (s:ByteArray) (w:World) (h:Rr w g c s) (hs:s.size<1125899906842624) (h1:1≤n) (h2:n≤64) (hn:c+n≤8 * s.size):
  Calls Tryz.prog 297 #[.pointer (some ⟨g,0,none⟩),.int .i64 (n:Int)] w fun e w'=>e=.returned (.tuple #[.int .u64 ((bv (((tb (bys s)).drop c).take n):Nat):Int),.int .i64 0])∧Rr w' g (c+n) s∧Kept (fun k=>k=g) w w':=by
 have hgw:gw (n:Int)=true:=by simp [gw];omega
 have hl:=left_any g c s w h hs;obtain ⟨m,hm⟩:∃m,8 * s.size - c=m:=⟨_,rfl⟩;rw [hm] at hl;have hle:decide ((m:Int)<(n:Int))=false:=by simp;omega
 have hle2:decide (m<n)=false:=by simp;omega
 have hle3:¬m<n:=by omega
 obtain ⟨T,hT⟩:∃T,tb (bys s)=T:=⟨_,rfl⟩;rw [hT];have HT:Hid (tb (bys s)=T):=hT;have HN:Hid (c+n≤8 * s.size):=hn;have HR:Hid (Rr w g c s):=h;clear hm hT hn h;go_enter Tryz.func297,Tryz.ntmps297;go_wp2_with fail
 refine (goodWidth_any n _).mono ?_;rintro e w1 ⟨rfl,rfl⟩;rw [hgw];go_wp2_with fail
 refine hl.mono ?_;rintro e w2 ⟨rfl,rfl⟩;go_wp2_with fail
 go_loopw [1,6] (fun i x wr=>∃k:Nat,k≤n∧i=.int .i64 (k:Int)∧x=.int .u64 ((bv ((T.drop c).take (n - k)):Nat):Int)∧Rr wr g (c+(n - k)) s∧Kept (fun k=>k=g) w1 wr) (fun i _ _=>(intOf i).toNat)
 case atStart=>exact ⟨n,Nat.le_refl _,rfl,by simp [bv],by simpa using HR.out.drew,(Kept.refl _ _).drew⟩
 case round=>
  obtain ⟨k,hk,rfl,rfl,hr,hkp⟩:=hrel;have HKP:Hid (Kept (fun k=>k=g) w1 wr):=hkp;clear hkp;by_cases hk0:k=0
  ·subst hk0;have hz:decide (((0:Nat):Int)>0)=false:=rfl;go_wp2
   go_ret2
   exact ⟨by simp,by simpa using hr,HKP.out⟩
  ·obtain ⟨a,ha⟩:∃a,c+(n - k)=a:=⟨_,rfl⟩;obtain ⟨V,hV⟩:∃V,bv ((T.drop c).take (n - k))=V:=⟨_,rfl⟩;rw [ha] at hr;rw [hV];have hc0:=hr.c0;have hc1:=hr.c1;have hsz:=HN.out;obtain ⟨p,hp⟩:∃p,a/8=p:=⟨_,rfl⟩;have hplace:=fun w0 h=>place_any g a w0 (by omega) h
   rw [hp] at hplace;obtain ⟨rm,hrm⟩:∃rm,8 - a%8=rm:=⟨_,rfl⟩;have hroom:=fun w0 h=>room_any g a w0 (by omega) h
   rw [hrm] at hroom;have hrm8:1≤rm∧rm≤8:=by omega
   obtain ⟨q,hq⟩:∃q,min k rm=q:=⟨_,rfl⟩;have hqk:1≤q∧q≤k∧q≤rm:=by omega
   have hlow:=fun w0=>lowest_any q (by omega) w0
   have hadd:=fun w0 h f=>add_any g a q w0 (by omega) h f
   have hmin:(if (rm:Int)<(k:Int) then (rm:Int) else (k:Int))=(q:Int):=by split <;> omega
   have hmin2:(if rm<k then (rm:Int) else (k:Int))=(q:Int):=by split <;> omega
   obtain ⟨j,hj⟩:∃j,k - q=j:=⟨_,rfl⟩;obtain ⟨d,hd⟩:∃d,rm - q=d:=⟨_,rfl⟩;have hwd:=wrap64_nat d (by omega);have hsub:(k:Int) - (q:Int)=(j:Int):=by omega
   have hsub2:(rm:Int) - (q:Int)=(d:Int):=by omega
   have kpos:(0:Int)<(k:Int):=by omega
   have hpb:p<1125899906842624:=by omega
   have hps:p<s.size:=by omega
   have p1:(0:Int)≤(p:Int):=by omega
   have p2:(p:Int)<(s.size:Int):=by omega
   have HC:Hid (c+(n - k)=a∧bv ((T.drop c).take (n - k))=V∧a/8=p∧8 - a%8=rm∧min k rm=q∧k - q=j∧rm - q=d):=⟨ha,hV,hp,hrm,hq,hj,hd⟩;have HRr:Hid (Rr wr g a s):=hr;obtain ⟨y,hy⟩:∃y,(s[p]'hps).toNat=y:=⟨_,rfl⟩;have hy256:y<256:=by rw [←hy];exact UInt8.toNat_lt _
   have hwy:IntKind.u64.wrap ((s[p]'hps).toNat:Int)=(y:Int):=by rw [hy,IntKind.wrap_u64];omega
   obtain ⟨t,ht⟩:∃t,y/2^d%2^q=t:=⟨_,rfl⟩;have htq:t<2^q:=by rw [←ht];exact Nat.mod_lt _ (Nat.two_pow_pos _)
   have hand:bits .and .u64 ((y:Int)/2^d) ((2^q - 1:Nat):Int)=(t:Int):=by
    have:=and64 (y/2^d) q (Nat.lt_of_le_of_lt (Nat.div_le_self _ _) (by omega)) (by omega);rw [ht] at this;rw [←this];simp
   obtain ⟨V2,hV2⟩:∃V2,V * 2^q=V2:=⟨_,rfl⟩
   have hV64:V2<18446744073709551616:=by
    have h:=bv_lt ((T.drop c).take (n - k));rw [hV] at h;have h':V<2^(n - k):=Nat.lt_of_lt_of_le h (Nat.pow_le_pow_right (by decide) (by simp;omega));have h3:V * 2^q<2^(n - k) * 2^q:=Nat.mul_lt_mul_of_pos_right h' (Nat.two_pow_pos q);rw [←Nat.pow_add] at h3;have h4:2^(n - k+q)≤2^64:=Nat.pow_le_pow_right (by decide) (by omega);omega
   have hshl:=shl_wrap V q V2 hV2 hV64
   have ht64:t<18446744073709551616:=by
    have h4:2^q≤2^8:=Nat.pow_le_pow_right (by decide) (by omega);omega
   have hor:=or64 q V2 t (by rw [←hV2];exact Nat.mul_mod_left _ _) htq hV64 ht64
   have HV:Hid (bv ((T.drop c).take (n - j))=V2+t):=by
    have:=take_round s c n k q a p d ha hp (by omega) (by omega) hqk.2.1 hk HN.out hps;rw [HT.out,hj,hV,hy,ht,hV2] at this;exact this
   obtain ⟨V3,hV3⟩:∃V3,V2+t=V3:=⟨_,rfl⟩;rw [hV3] at hor HV;clear ha hV hp hrm hq hj hd hr hsz hy ht hV2 hV3 htq;have HQ0:Hid (wr.drew.cell? ⟨g,0,none⟩=some (.int .i64 (a:Int))):=hc0;have HQ1:Hid (wr.drew.frozen? ⟨g,0,none⟩=false):=HRr.out.drew.fr 0;go_wp2_with fail
   refine (hroom _ hc0).mono ?_;rintro e w3 ⟨rfl,rfl⟩;go_wp2_with fail
   go_region_held3 (fun w'=>w'.cell? ⟨g,0,none⟩=some (.int .i64 (a:Int))∧w'.cell? ⟨g,1,none⟩=some (.string s)) (go_keep) (first | (go_at_call 289;refine (hroom _ ?_).mono ?_;(simp [*]);rintro e w' ⟨rfl,rfl⟩) | (go_at_call 288;refine (hplace _ ?_).mono ?_;(simp [*]);rintro e w' ⟨rfl,rfl⟩) | (go_at_call 290;refine (hlow _).mono ?_;rintro e w' ⟨rfl,rfl⟩))
   all_goals go_wp2_with fail
   all_goals refine (hadd _ HQ0.out HQ1.out).mono ?_
   all_goals rintro e w4 ⟨rfl,rfl⟩
   all_goals go_wp2_with fail
   all_goals go_roundw
   all_goals first
    | (case rel=>exact ⟨j,by have:=HC.out;omega,rfl,by rw [HV.out],by have e:c+(n - j)=a+q:=(by have:=HC.out;omega);rw [e];exact (HRr.out.step q (by have:=HC.out;have:=HN.out;omega)).drew,(HKP.out.setCell (p:=⟨g,0,none⟩) (fun _=>rfl) _).drew⟩)
    | (case measure=>simp [intOf];have:=HC.out;omega)
end Go.Proofs.YtoimkngkcliinaaGreatDoor.Bt
