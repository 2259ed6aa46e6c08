/- FrA, FrR, FrMath, FrK, FrG, FrZ, joined. -/
import Derived.Test.YtanaapfobpgibaaGreatDoorJSumMath
import Derived.Test.YtanaapfobpgibaaGreatDoorJBitUnpack
open Go.Proofs.Tryz
namespace Go.Proofs.YtanaapfobpgibaaGreatDoor.Jr
open Go.RowKit Go.Maps
set_option linter.unusedVariables false
set_option linter.unusedSimpArgs false
variable {w w':World}
theorem aj {k:IntKind} {a b:Int} (h:a=b):Ending.returned (.int k a)=.returned (.int k b):=by rw [h]
theorem ae {a b:Bool} (h:a=b):Ending.returned (.bool a)=.returned (.bool b):=by rw [h]
theorem H5 {a b:ByteArray} (h:a=b):Ending.returned (.string a)=.returned (.string b):=by rw [h]
theorem aX (w:World) (o:Obj):Below w.heap.size w (w.alloc o):=(Below.refl _ w).alloc (Nat.le_refl _) o
theorem Below.more (h:Below w.heap.size w w') (o:Obj):Below w.heap.size w (w'.alloc o):=h.alloc h.size o
theorem Below.then {w0:World} (h:Below w0.heap.size w0 w) (hb:Below w.heap.size w w'):Below w0.heap.size w0 w':=h.trans (hb.mono h.size)
theorem cell_later {a:Addr} {v:Value} (hb:Below w.heap.size w w') (hc:w.cell? a=some v):w'.cell? a=some v:=
 (World.cell?_of_block (hb.block a.block (World.block_lt_of_cell? w a hc))).trans hc
theorem We {w1 w2:World} {g:Nat} {a b c d:Value} (h:Below w.heap.size w w1∧w1.cell? ⟨g,0,none⟩=some a∧w1.cell? ⟨g,1,none⟩=some b∧w1.cell? ⟨g,2,none⟩=some c∧w1.cell? ⟨g,3,none⟩=some d) (hb:Below w1.heap.size w1 w2):Below w.heap.size w w2∧w2.cell? ⟨g,0,none⟩=some a∧w2.cell? ⟨g,1,none⟩=some b∧w2.cell? ⟨g,2,none⟩=some c∧w2.cell? ⟨g,3,none⟩=some d:=
 ⟨Below.then h.1 hb,cell_later hb h.2.1,cell_later hb h.2.2.1,cell_later hb h.2.2.2.1,cell_later hb h.2.2.2.2⟩
def gs (q:Int):Bool:=decide (1≤q)&&decide (q≤65535)
def O3 (p n:Int):Int:=if p<n - 1 then 23 else if 1<n then 1 else 0
def pt (n:Int):Int:=if n<0∨5865<n then 0 else if n=0 then 1 else (n+22)/23
def rt (q p n z:Int):Bool:=gs q&&(decide (1≤n)&&(decide (n≤255)&&(decide (0≤p)&&(decide (p<n)&&(decide (O3 p n≤z)&&decide (z≤23))))))
theorem dQ (q:Int) (w:World):Calls prog 120 #[.int .i64 q] w fun e w'=>e=.returned (.bool (gs q))∧w'=w:=by
 by_cases h1:1≤q
 ·by_cases h2:q≤65535
  ·go_enter func120,ntmps120;go_wp2
   go_ret;exact ⟨ae (by simp [gs,h1,h2]),rfl⟩
  ·go_enter func120,ntmps120;go_wp2
   go_ret;exact ⟨ae (by simp [gs,h1,h2]),rfl⟩
 ·go_enter func120,ntmps120;go_wp2
  go_ret;exact ⟨ae (by simp [gs];omega),rfl⟩
theorem og (n:Int) (h1: -9223372036854775808≤n) (h2:n≤9223372036854775807) (w:World):Calls prog 75 #[.int .i64 n] w fun e w'=>e=.returned (.int .i64 (pt n))∧w'=w:=by
 by_cases h0:n<0
 ·go_enter func75,ntmps75;go_wp2
  go_ret;exact ⟨aj (by simp [pt,h0]),rfl⟩
 ·by_cases h5:5865<n
  ·go_enter func75,ntmps75;go_wp2
   go_ret;exact ⟨aj (by simp [pt,h0,h5]),rfl⟩
  ·by_cases hz:n=0
   ·subst hz;go_enter func75,ntmps75;go_wp2
    go_ret;exact ⟨aj (by simp [pt]),rfl⟩
   ·have hz':(n==0)=false:=by simp [hz]
    go_enter func75,ntmps75;go_wp2
    go_ret;exact ⟨aj (by simp [pt,h0,h5,hz];omega),rfl⟩
set_option maxRecDepth 100000 in
theorem vF (n:Int) (w:World):Calls prog 15 #[.int .i64 n] w fun e w'=>e=.returned (.int .i64 (pt n))∧w'=w:=by
 by_cases h0:n<0
 ·go_enter func15,ntmps15;go_wp2
  go_ret;exact ⟨aj (by simp [pt,h0]),rfl⟩
 ·by_cases h5:5865<n
  ·go_enter func15,ntmps15;go_wp2
   go_ret;exact ⟨aj (by simp [pt,h0,h5]),rfl⟩
  ·go_enter func15,ntmps15;go_wp2
   go_loop [0,3] (fun x k=>∃j m:Nat,x=.int .i64 (m:Int)∧k=.int .i64 ((j:Int)+1)∧(m:Int)+23 * (j:Int)=n∧(j=0∨1≤m)) (fun x _=>(intOf x).toNat)
   case atStart=>exact ⟨0,n.toNat,by congr 1;omega,rfl,by omega,.inl rfl⟩
   case round=>
    obtain ⟨j,m,rfl,rfl,hm,hj⟩:=hrel;by_cases h23:(23:Int)<(m:Int)
    ·go_wp2
     go_round
     case rel=>exact ⟨j+1,m - 23,by congr 1;omega,by go_num,by omega,.inr (by omega)⟩
     case measure=>simp [intOf];omega
    ·have ad5:decide ((23:Int)<(m:Int))=false:=by simp;omega
     go_wp2
     go_ret;refine ⟨aj ?_,rfl⟩;simp only [pt,h0,h5,or_self,if_false];split <;> omega
theorem y7 (q p n:Int) (d:ByteArray) (h1: -9223372036854775808<n) (h2:n≤9223372036854775807) (w:World):Calls prog 228 #[.agg #[.int .i64 q,.int .i64 p,.int .i64 n,.string d]] w fun e w'=>e=.returned (.int .i64 (O3 p n))∧Below w.heap.size w w':=by
 by_cases ha:p<n - 1
 ·go_enter func228,ntmps228;go_wp2
  go_ret;exact ⟨aj (by simp [O3,ha]),aX _ _⟩
 ·have ha':decide (p<n - 1)=false:=by simp;omega
  by_cases hb:1<n
  ·go_enter func228,ntmps228;go_wp2
   go_ret;exact ⟨aj (by simp [O3,ha,hb]),aX _ _⟩
  ·have hb':decide (1<n)=false:=by simp;omega
   go_enter func228,ntmps228;go_wp2
   go_ret;exact ⟨aj (by unfold O3;rw [if_neg (by omega),if_neg (by omega)]),aX _ _⟩
theorem jv (q p n z:Int):rt q p n z=true↔1≤q∧q≤65535∧1≤n∧n≤255∧0≤p∧p<n∧O3 p n≤z∧z≤23:=by
 simp [rt,gs];omega
set_option maxRecDepth 4000
theorem zi (q p n z:Nat):Bt.aA [(q,16),(p,8),(n,8),(z,8)]=Bt.tb [q/256,q%256,p,n,z]:=by
 have e:Bt.bo q 16=Bt.bo (q/256) 8++Bt.bo (q%256) 8:=by
  have e1:=Bt.nG q 8 8;have e2:=Bt.GQ q 8;rw [show (256:Nat)=2^8 from rfl,e2];exact e1
 simp [Bt.aA,Bt.tb,e]
theorem IX (q p n z:Nat) (hq:q<65536) (hp:p<256) (hn:n<256) (hz:z<256):∀f∈[(q,(16:Int)),(p,8),(n,8),(z,8)],Bt.okF f=true:=by
 intro f hf;simp only [List.mem_cons,List.not_mem_nil,or_false] at hf;have e16:(2:Nat)^16=65536:=rfl;have e8:(2:Nat)^8=256:=rfl;rcases hf with rfl | rfl | rfl | rfl <;> simp [Bt.okF,Bt.gw,e16,e8,hq,hp,hn,hz]
theorem Uz (q p n z:Nat) (hq:q<65536) (hp:p<256) (hn:n<256) (hz:z<256):Bt.ua [(q,16),(p,8),(n,8),(z,8)]=Sm.tx [q/256,q%256,p,n,z]∧Bt.ub [(q,16),(p,8),(n,8),(z,8)]=0:=by
 have ha:([(q,(16:Int)),(p,8),(n,8),(z,8)].all Bt.okF)=true:=List.all_eq_true.2 (IX q p n z hq hp hn hz);unfold Bt.ua Bt.ub;rw [if_pos ha,if_pos ha,zi,Bt.Ic _ (by intro x hx;simp at hx;omega)];exact ⟨rfl,rfl⟩
theorem Uy (b0 b1 b2 b3 b4:Nat) (h0:b0<256) (h1:b1<256) (h2:b2<256) (h3:b3<256) (h4:b4<256):Bt.Hk (Bt.tb [b0,b1,b2,b3,b4]) [16,8,8,8]=[256 * b0+b1,b2,b3,b4]∧Bt.ML (Bt.tb [b0,b1,b2,b3,b4]) [16,8,8,8]=0:=by
 have e:=zi (256 * b0+b1) b2 b3 b4;rw [show (256 * b0+b1)/256=b0 by omega,show (256 * b0+b1)%256=b1 by omega] at e;rw [←e];have ht:=Bt.XE _ [] (IX (256 * b0+b1) b2 b3 b4 (by omega) h2 h3 h4);rw [List.append_nil] at ht;have hd:=Bt.Zt (Bt.aA [(256 * b0+b1,16),(b2,8),(b3,8),(b4,8)]) 0;rw [List.replicate_zero,List.append_nil] at hd;exact Bt.zN ht (by rw [hd];rfl)
def hd (q p n z:Nat):List UInt8:=[q/256,q%256,p,n,z].map UInt8.ofNat
def body (q p n:Nat) (D:List UInt8):List UInt8:=hd q p n D.length++D++List.replicate (23 - D.length) 0
def sm (L:List UInt8):List UInt8:=(Sm.b4 (Sm.ext 0 L)).map UInt8.ofNat
def bk (q p n:Nat) (D:List UInt8):List UInt8:=body q p n D++sm (body q p n D)
def bl (q p n:Int) (d:ByteArray):ByteArray:=⟨(bk q.toNat p.toNat n.toNat d.data.toList).toArray⟩
theorem zj (q p n z:Nat):(hd q p n z).length=5:=rfl
theorem Kj (L:List UInt8):(sm L).length=4:=rfl
theorem DZ (q p n:Nat) (D:List UInt8) (h:D.length≤23):(body q p n D).length=28:=by
 simp [body,zj];omega
theorem LV (q p n:Nat) (D:List UInt8) (h:D.length≤23):(bk q p n D).length=32:=by
 simp [bk,Kj,DZ q p n D h]
theorem nk (d:ByteArray):d.data.toList.length=d.size:=by rw [Array.length_toList];rfl
theorem Vj (q p n:Int) (d:ByteArray) (h:d.size≤23):(bl q p n d).size=32:=by
 have:=LV q.toNat p.toNat n.toNat d.data.toList (by rw [nk];exact h);rw [←nk];simpa [bl] using this
theorem JC (q p n:Int) (d:ByteArray):(bl q p n d).data.toList=bk q.toNat p.toNat n.toNat d.data.toList:=by simp [bl]
def bt (s:ByteArray) (i:Nat):Nat:=(s.data.toList.getD i 0).toNat
theorem qZ (s:ByteArray) (i:Nat):bt s i<256:=UInt8.toNat_lt _
theorem Bg (s:ByteArray) (i:Nat) (h:i<s.size):bt s i=s[i].toNat:=by
 have h2:i<s.data.toList.length:=by rw [nk];exact h
 unfold bt;rw [List.getD_eq_getElem?_getD,List.getElem?_eq_getElem h2];rfl
def rq (s:ByteArray):Int:=((256 * bt s 0+bt s 1:Nat):Int)
def yI (s:ByteArray):ByteArray:=s.extract 5 (5+bt s 4)
theorem ja (s:ByteArray) (a b:Nat):(s.extract a b).data.toList=(s.data.toList.drop a).take (b - a):=by
 rw [ByteArray.data_extract,Array.toList_extract,List.extract_eq_take_drop]
theorem mF (s:ByteArray) (h:s.size=32) (h4:bt s 4≤23):(yI s).size=bt s 4:=by
 rw [←nk,yI,ja];simp;have:=nk s;simp at this;omega
structure Ub (s:ByteArray):Prop where
 size:s.size=32
 len:bt s 4≤23
 right:rt (rq s) (bt s 2) (bt s 3) (bt s 4)=true
 same:bl (rq s) (bt s 2) (bt s 3) (yI s)=s
theorem JA (q p n:Int) (d:ByteArray) (h:rt q p n d.size=true):bt (bl q p n d) 0=q.toNat/256∧bt (bl q p n d) 1=q.toNat%256∧bt (bl q p n d) 2=p.toNat∧bt (bl q p n d) 3=n.toNat∧bt (bl q p n d) 4=d.size:=by
 obtain ⟨h1,h2,h3,h4,h5,h6,h7,h8⟩:=(jv _ _ _ _).1 h;have hl:=nk d;unfold bt;rw [JC];unfold bk body hd;rw [hl];simp [UInt8.toNat_ofNat'];omega
theorem NC (q p n:Int) (d:ByteArray) (h:rt q p n d.size=true):yI (bl q p n d)=d:=by
 obtain ⟨h1,h2,h3,h4,h5,h6,h7,h8⟩:=(jv _ _ _ _).1 h;obtain ⟨-,-,-,-,e4⟩:=JA q p n d h;apply ByteArray.ext
 apply Array.ext'
 unfold yI;rw [ja,e4,JC];unfold bk body;rw [List.append_assoc,List.append_assoc,List.drop_left' (zj _ _ _ _),List.take_left' (by rw [nk];omega)]
theorem Nv (q p n:Int) (d:ByteArray) (h:rt q p n d.size=true):rq (bl q p n d)=q:=by
 obtain ⟨h1,h2,h3,h4,h5,h6,h7,h8⟩:=(jv _ _ _ _).1 h;obtain ⟨e0,e1,-⟩:=JA q p n d h;unfold rq;rw [e0,e1];omega
theorem sK (q p n:Int) (d:ByteArray) (h:rt q p n d.size=true):((bt (bl q p n d) 2:Nat):Int)=p∧((bt (bl q p n d) 3:Nat):Int)=n:=by
 obtain ⟨h1,h2,h3,h4,h5,h6,h7,h8⟩:=(jv _ _ _ _).1 h;obtain ⟨-,-,e2,e3,-⟩:=JA q p n d h;rw [e2,e3];omega
theorem VI (q p n:Int) (d:ByteArray) (h:rt q p n d.size=true):Ub (bl q p n d):=by
 obtain ⟨h1,h2,h3,h4,h5,h6,h7,h8⟩:=(jv _ _ _ _).1 h;obtain ⟨-,-,-,-,e4⟩:=JA q p n d h;obtain ⟨e2,e3⟩:=sK q p n d h;refine ⟨Vj q p n d (by omega),by omega,?_,?_⟩
 ·rw [Nv q p n d h,e2,e3,e4];exact h
 ·rw [Nv q p n d h,e2,e3,NC q p n d h]
theorem aaw {s:ByteArray} (h:Ub s):rt (rq s) (bt s 2) (bt s 3) (yI s).size=true:=by rw [mF s h.size h.len];exact h.right
variable {F:Nat→Prop} {w w':World} {N e n:Nat} {v:Value} {xs:List Value} {a:Option Addr}
structure Kept (F:Nat→Prop) (w w':World):Prop where
 os:w'.os=w.os
 tape:w'.tape=w.tape
 output:w'.output=w.output
 size:w.heap.size≤w'.heap.size
 block:∀k,k<w.heap.size→¬F k→w'.heap[k]? =w.heap[k]?
theorem Kept.bb (h:Below w.heap.size w w'):Kept F w w':=⟨h.os,h.tape,h.output,h.size,fun k hk _=>h.block k hk⟩
theorem Kept.row {base size:Nat} (h:Kept F w w') (hr:w.ownsRow base e size v n xs) (hn:∀k,v.ownBlock=some k→¬F k):w'.ownsRow base e size v n xs:=by
 refine ⟨hr.1,?_⟩;rcases hr.2 with h0 | ⟨g,cap,cur,rfl,hb,Dh,rest⟩
 ·exact .inl h0
 ·refine .inr ⟨g,cap,cur,rfl,hb,?_,rest⟩;rw [h.block g (Array.getElem?_eq_some_iff.1 Dh).1 (hn g rfl)];exact Dh
/- A piece: number, place, number of pieces, data. -/
structure Pc where
 q:Int
 p:Int
 n:Int
 d:ByteArray
def fZ:Pc:=⟨0,0,0,⟨#[]⟩⟩
def dB (L:List Pc):List Value:=L.flatMap fun x=>[.int .i64 x.q,.int .i64 x.p,.int .i64 x.n,.string x.d]
theorem tM (x:Pc) (L:List Pc):dB (x::L)=.int .i64 x.q:: .int .i64 x.p:: .int .i64 x.n:: .string x.d::dB L:=rfl
theorem oP (L M:List Pc):dB (L++M)=dB L++dB M:=by simp [dB]
theorem GM (L:List Pc):∀(i:Nat),i<L.length→(dB L)[i * 4]? =some (.int .i64 (L.getD i fZ).q)∧(dB L)[i * 4+1]? =some (.int .i64 (L.getD i fZ).p)∧(dB L)[i * 4+2]? =some (.int .i64 (L.getD i fZ).n)∧(dB L)[i * 4+3]? =some (.string (L.getD i fZ).d):=by
 induction L with
 | nil=>intro i hi;cases hi
 | cons p L ih=>
  intro i hi
  cases i with
  | zero=>simp [tM]
  | succ i=>
   have:=ih i (by simpa using hi);rw [tM,show (i+1) * 4=i * 4+1+1+1+1 by omega]
   simpa using this
def bW (l:List ByteArray):List Value:=l.map fun s=>.string s
@[simp] theorem yi (l:List ByteArray):(bW l).length=l.length:=by simp [bW]
theorem oO (l m:List ByteArray):bW (l++m)=bW l++bW m:=by simp [bW]
/- Texts, pieces that lie in a world from that place on. -/
def iC (w:World) (a:Option Addr) (l:List ByteArray):Prop:=
 ∀i,i<l.length→∃b o,a=some ⟨b,o,none⟩∧w.cell? ⟨b,o+i,none⟩=some (.string (l.getD i ⟨#[]⟩))
structure Z7 (w:World) (b o:Nat) (x:Pc):Prop where
 c0:w.cell? ⟨b,o,none⟩=some (.int .i64 x.q)
 c1:w.cell? ⟨b,o+1,none⟩=some (.int .i64 x.p)
 c2:w.cell? ⟨b,o+2,none⟩=some (.int .i64 x.n)
 c3:w.cell? ⟨b,o+3,none⟩=some (.string x.d)
theorem Z7.later {b o:Nat} {x:Pc} (h:Z7 w b o x) (hb:Below w.heap.size w w'):Z7 w' b o x:=⟨cell_later hb h.c0,cell_later hb h.c1,cell_later hb h.c2,cell_later hb h.c3⟩
def oQ (w:World) (a:Option Addr) (l:List Pc):Prop:=
 ∀i,i<l.length→∃b o,a=some ⟨b,o,none⟩∧Z7 w b (o+i * 4) (l.getD i fZ)
theorem iC.later {l:List ByteArray} (h:iC w a l) (hb:Below w.heap.size w w'):iC w' a l:=fun i hi=>by
 obtain ⟨b,o,e,c0⟩:=h i hi;exact ⟨b,o,e,cell_later hb c0⟩
theorem iC.nil (w:World) (a:Option Addr):iC w a []:=fun i hi=>by cases hi
theorem oQ.nil (w:World) (a:Option Addr):oQ w a []:=fun i hi=>by cases hi
theorem oQ.spot {l:List Pc} (h:oQ w a l) (h0:l≠[]):∃b o,a=some ⟨b,o,none⟩∧∀i,i<l.length→Z7 w b (o+i * 4) (l.getD i fZ):=by
 have hp:0<l.length:=List.length_pos_iff.2 h0;obtain ⟨b,o,e,_⟩:=h 0 hp;refine ⟨b,o,e,fun i hi=>?_⟩;obtain ⟨b',o',e',c0⟩:=h i hi;rw [e] at e';simp at e';obtain ⟨rfl,rfl⟩:=e';exact c0
/- Rows that a call has made. -/
def ym (w:World) (N:Nat) (v:Value) (l:List ByteArray):Prop:=w.ownsRow N 9 1 v l.length (bW l)
def Z4 (w:World) (N:Nat) (v:Value) (l:List Pc):Prop:=w.ownsRow N 234 4 v l.length (dB l)
theorem eF {z:Nat} (h:w.ownsRow N e z v n xs):∃a cap,v=.slice a n cap:=by
 rcases h.2 with ⟨h0,h1⟩ | ⟨r,cap,cur,hv,_⟩
 ·exact ⟨none,0,by rw [h0,h1]⟩
 ·exact ⟨_,cap,hv⟩
theorem Z4.rd {cap:Nat} {l:List Pc} (h:Z4 w N (.slice a n cap) l):oQ w a l:=fun i hi=>by
 rcases h.2 with ⟨h0,h1⟩ | ⟨g,cap',cur,hv,_,hb,_,_,_,h4⟩
 ·omega
 cases hv
 obtain ⟨e0,e1,e2,e3⟩:=GM l i hi
 have q:∀j,j<l.length * 4→w.cell? ⟨g,0+j,none⟩=(dB l)[j]? :=fun j hj=>by
  rw [←h4,List.getElem?_take_of_lt hj];simp [World.cell?,hb]
 refine ⟨g,0,rfl,?_,?_,?_,?_⟩
 ·rw [q _ (by omega)];exact e0
 ·have:=q (i * 4+1) (by omega);rw [←Nat.add_assoc] at this;rw [this];exact e1
 ·have:=q (i * 4+2) (by omega);rw [←Nat.add_assoc] at this;rw [this];exact e2
 ·have:=q (i * 4+3) (by omega);rw [←Nat.add_assoc] at this;rw [this];exact e3
theorem aQ {B k:Nat} (h:w.ownsRow B e k v n xs) (hb:Below w.heap.size w w'):w'.ownsRow B e k v n xs:=(Kept.bb (F:=fun _=>False) hb).row h (fun _ _ h=>h)
theorem IG:(prog.info? 9).map (fun i=>(i.zero,i.size,i.bytes))=some (some (.string ⟨#[]⟩),1,16):=by kernel_rfl
theorem aaZ:(prog.info? 234).map (fun i=>(i.zero,i.size,i.bytes))=some (some (.agg #[.int .i64 0,.int .i64 0,.int .i64 0,.string ⟨#[]⟩]),4,40):=by kernel_rfl
theorem qY (w:World) (x y z u:Value) (t:TypeId) (n:Nat) (hn:n=w.heap.size):∀j v,[x,y,z,u][j]? =some v→(w.alloc (.cells #[x,y,z,u] t)).cell? ((⟨n,0,none⟩:Addr).add j)=some v:=by
 subst hn;intro j v hj
 match j,hj with
 | 0,hj=>simp at hj;subst hj;simp [Addr.add,go_sem]
 | 1,hj=>simp at hj;subst hj;simp [Addr.add,go_sem]
 | 2,hj=>simp at hj;subst hj;simp [Addr.add,go_sem]
 | 3,hj=>simp at hj;subst hj;simp [Addr.add,go_sem]
theorem fN (w:World) (x:Value) (t:TypeId) (n:Nat) (hn:n=w.heap.size):∀j u,[x][j]? =some u→(w.alloc (.cells #[x] t)).cell? ((⟨n,0,none⟩:Addr).add j)=some u:=by
 subst hn;intro j u hj
 match j,hj with
 | 0,hj=>simp at hj;subst hj;simp [Addr.add,go_sem]
variable {α:Type} {l:List Pc}
def np (L:Nat):Nat:=(pt L).toNat
theorem cY (L:Nat) (h:L≤5865):pt (L:Int)=(np L:Int)∧1≤np L∧np L≤255∧L≤23 * np L∧(np L=1∨23 * (np L - 1)<L):=by
 unfold np pt;rw [if_neg (by omega)];split <;> omega
theorem aaK (L:Nat) (h:¬L≤5865):pt (L:Int)=0:=by unfold pt;rw [if_pos (by omega)]
def dt (s:ByteArray) (i:Nat):ByteArray:=s.extract (23 * i) (min (23 * i+23) s.size)
theorem A7 (s:ByteArray) (i:Nat) (h:23 * i≤s.size):(dt s i).data.toList=(s.data.toList.drop (23 * i)).take 23:=by
 unfold dt;rw [ja];have hl:=nk s;by_cases h23:23 * i+23≤s.size
 ·rw [Nat.min_eq_left h23];congr 1;omega
 ·rw [Nat.min_eq_right (by omega),List.take_of_length_le (by rw [List.length_drop,hl];omega),List.take_of_length_le (by rw [List.length_drop,hl];omega)]
theorem Va (s:ByteArray) (i:Nat) (h:23 * i≤s.size):(dt s i).size=min 23 (s.size - 23 * i):=by
 rw [←nk,A7 s i h,List.length_take,List.length_drop,nk]
def Ig (q:Int) (s:ByteArray):List Pc:=(List.range (np s.size)).map fun i:Nat=>⟨q,(i:Int),(np s.size:Int),dt s i⟩
@[simp] theorem lN (q:Int) (s:ByteArray):(Ig q s).length=np s.size:=by simp [Ig]
theorem qh (q:Int) (s:ByteArray) (i:Nat) (h:i<np s.size):(Ig q s).getD i fZ=⟨q,(i:Int),(np s.size:Int),dt s i⟩:=by
 simp [Ig,List.getD_eq_getElem?_getD,h]
theorem OA (L:Nat) (h:L≤5865) (i:Nat) (hi:i<np L):23 * i≤L∧(i<np L - 1→23 * i+23≤L):=by
 obtain ⟨_,h1,h2,h3,h4⟩:=cY L h;omega
theorem dP (q:Int) (s:ByteArray) (hq:gs q=true) (h:s.size≤5865) (i:Nat) (hi:i<np s.size):rt q i (np s.size:Int) (dt s i).size=true:=by
 obtain ⟨_,h1,h2,h3,h4⟩:=cY s.size h;obtain ⟨h5,h6⟩:=OA s.size h i hi;have hd:=Va s i h5;simp [gs] at hq;rw [jv,hd];unfold O3;split <;> (try split) <;> omega
def rtP (x:Pc):Bool:=rt x.q x.p x.n x.d.size
def bkP (x:Pc):ByteArray:=bl x.q x.p x.n x.d
def eO (q:Int) (s:ByteArray):List ByteArray:=(Ig q s).map bkP
@[simp] theorem ba (q:Int) (s:ByteArray):(eO q s).length=np s.size:=by simp [eO]
theorem xm (q:Int) (s:ByteArray) (i:Nat) (h:i<np s.size):(eO q s).getD i ⟨#[]⟩=bl q i (np s.size:Int) (dt s i):=by
 simp [eO,Ig,List.getD_eq_getElem?_getD,h,bkP]
theorem eC (l:List α) (k:Nat) (d:α) (hk:k<l.length):l.take (k+1)=l.take k++[l.getD k d]:=by
 rw [List.take_add_one];simp [List.getElem?_eq_getElem hk]
structure Wh (l:List Pc):Prop where
 ne:l≠[]
 each:∀i,i<l.length→rtP (l.getD i fZ)=true∧(l.getD i fZ).q=(l.getD 0 fZ).q∧(l.getD i fZ).p=(i:Int)∧(l.getD i fZ).n=(l.length:Int)
def ct (l:List Pc):List UInt8:=l.flatMap fun x=>x.d.data.toList
theorem zt (l m:List Pc):ct (l++m)=ct l++ct m:=by simp [ct]
theorem Zw (x:Pc):ct [x]=x.d.data.toList:=by simp [ct]
theorem qV (l:List Pc) (k:Nat) (h:k<l.length):ct (l.take (k+1))=ct (l.take k)++(l.getD k fZ).d.data.toList:=by
 rw [eC l k fZ h,zt,Zw]
theorem Xp (q:Int) (s:ByteArray) (hq:gs q=true) (h:s.size≤5865):Wh (Ig q s):=by
 obtain ⟨_,h1,h2,h3,h4⟩:=cY s.size h;refine ⟨fun e=>by have:=congrArg List.length e;simp at this;omega,fun i hi=>?_⟩;rw [lN] at hi;rw [qh q s i hi,qh q s 0 (by omega),lN];exact ⟨dP q s hq h i hi,rfl,rfl,rfl⟩
theorem Ju (q:Int) (s:ByteArray) (h:s.size≤5865):∀k,k≤np s.size→ct ((Ig q s).take k)=s.data.toList.take (23 * k)
 | 0,_=>by simp [ct]
 | k+1,hk=>by
  have ih:=Ju q s h k (by omega);obtain ⟨h5,h6⟩:=OA s.size h k (by omega);rw [qV _ k (by rw [lN];omega),ih,qh q s k (by omega),A7 s k h5,Nat.mul_succ,List.take_add]
theorem Zv (q:Int) (s:ByteArray) (h:s.size≤5865):ct (Ig q s)=s.data.toList:=by
 obtain ⟨_,h1,h2,h3,h4⟩:=cY s.size h;have e:=Ju q s h (np s.size) (Nat.le_refl _);rw [List.take_of_length_le (by simp)] at e;rw [e,List.take_of_length_le (by rw [nk];exact h3)]
theorem Wh.sizes (h:Wh l) (i:Nat) (hi:i<l.length):(i<l.length - 1→(l.getD i fZ).d.size=23)∧(l.getD i fZ).d.size≤23∧(1<l.length→1≤(l.getD i fZ).d.size)∧gs (l.getD i fZ).q=true∧l.length≤255:=by
 obtain ⟨h1,h2,h3,h4⟩:=h.each i hi;obtain ⟨r1,r2,r3,r4,r5,r6,r7,r8⟩:=(jv _ _ _ _).1 h1;rw [h3,h4] at r7;rw [h4] at r4;unfold O3 at r7;have hg:gs (l.getD i fZ).q=true:=by unfold gs;rw [Bool.and_eq_true];exact ⟨decide_eq_true r1,decide_eq_true r2⟩
 refine ⟨fun hl=>?_,by omega,fun hl=>?_,hg,by omega⟩
 ·rw [if_pos (by omega)] at r7;omega
 ·split at r7 <;> (try split at r7) <;> omega
theorem Wh.len {l:List Pc} (h:Wh l):∀k,k<l.length→(ct (l.take k)).length=23 * k
 | 0,_=>by simp [ct]
 | k+1,hk=>by
  have ih:=h.len k (by omega);rw [qV l k (by omega),List.length_append,ih,nk,(h.sizes k (by omega)).1 (by omega)];omega
theorem Wh.total (h:Wh l):(ct l).length≤5865∧np (ct l).length=l.length:=by
 have h0:0<l.length:=List.length_pos_iff.2 h.ne;have e1:=h.len (l.length - 1) (by omega);have e2:=qV l (l.length - 1) (by omega);rw [Nat.sub_add_cancel h0,List.take_of_length_le (Nat.le_refl _)] at e2;have e3:=congrArg List.length e2;rw [List.length_append,e1,nk] at e3;obtain ⟨-,s2,s3,-,s5⟩:=h.sizes (l.length - 1) (by omega);have hL:(ct l).length≤5865:=by omega
 refine ⟨hL,?_⟩;obtain ⟨_,n1,n2,n3,n4⟩:=cY (ct l).length hL;omega
theorem Wh.split (h:Wh l) (i:Nat) (hi:i<l.length):ct l=ct (l.take i)++(l.getD i fZ).d.data.toList++ct (l.drop (i+1)):=by
 rw [←qV l i hi,←zt,List.take_append_drop]
theorem Dx (l:List α) (i:Nat) (h:i<l.length) (d:α):l[i]=l.getD i d:=by simp [List.getD_eq_getElem?_getD,h]
theorem Wh.back (h:Wh l):Ig (l.getD 0 fZ).q ⟨(ct l).toArray⟩=l:=by
 obtain ⟨hL,hn⟩:=h.total;have hsz:(⟨(ct l).toArray⟩:ByteArray).size=(ct l).length:=by simp [ByteArray.size]
 apply List.ext_getElem
 ·rw [lN,hsz,hn]
 ·intro i hi1 PS;rw [Dx _ i hi1 fZ,Dx _ i PS fZ,qh _ _ i (by rw [hsz,hn];exact PS),hsz,hn];obtain ⟨-,e2,e3,e4⟩:=h.each i PS;obtain ⟨s1,s2,-⟩:=h.sizes i PS
  have hd:dt ⟨(ct l).toArray⟩ i=(l.getD i fZ).d:=by
   have h23:23 * i≤(⟨(ct l).toArray⟩:ByteArray).size:=by
    rw [hsz,h.split i PS,List.length_append,List.length_append,h.len i PS];omega
   apply ByteArray.ext
   apply Array.ext'
   rw [A7 _ i h23];show ((ct l).drop (23 * i)).take 23=_
   rw [h.split i PS,List.append_assoc,List.drop_left' (h.len i PS)];by_cases abd:i<l.length - 1
   ·exact List.take_left' (by rw [nk];exact s1 abd)
   ·have ed:l.drop (i+1)=[]:=List.drop_eq_nil_of_le (by omega);rw [ed];have:ct []=[]:=rfl;rw [this,List.append_nil,List.take_of_length_le (by rw [nk];exact s2)]
  rw [hd,←e2,←e3,←e4]
variable {s:ByteArray} {l:List ByteArray} {q:Int} {f:Nat}
def pL (s:ByteArray):Pc:=⟨rq s,((bt s 2:Nat):Int),((bt s 3:Nat):Int),yI s⟩
theorem Zf (q p n:Int) (d:ByteArray) (h:rt q p n d.size=true):pL (bl q p n d)=⟨q,p,n,d⟩:=by
 unfold pL;rw [Nv _ _ _ _ h,NC _ _ _ _ h,(sK _ _ _ _ h).1,(sK _ _ _ _ h).2]
def fn (l:List ByteArray):Nat:=bt (l.getD 0 ⟨#[]⟩) 3
theorem Xv (h:Ub s):1≤bt s 3∧bt s 3≤255:=by
 obtain ⟨h1,h2,h3,h4,h5,h6,h7,h8⟩:=(jv _ _ _ _).1 h.right;omega
structure SM (l:List ByteArray):Prop where
 ne:l≠[]
 one:1≤fn l
 fit:fn l≤l.length
 each:∀i,i<fn l→Ub (l.getD i ⟨#[]⟩)
def mq (l:List ByteArray):List Pc:=(l.take (fn l)).map pL
theorem SM.len (h:SM l):(mq l).length=fn l:=by
 unfold mq;rw [List.length_map,List.length_take,Nat.min_eq_left h.fit]
structure Std (l:List ByteArray) (q:Int) (s:ByteArray):Prop where
 num:gs q=true
 len:s.size≤5865
 eq:l.take (np s.size)=eO q s
theorem Ie {x:Pc} (hx:x∈Ig q s):∃i,i<np s.size∧x=⟨q,(i:Int),(np s.size:Int),dt s i⟩:=by
 simp only [Ig,List.mem_map,List.mem_range] at hx;obtain ⟨i,hi,rfl⟩:=hx;exact ⟨i,hi,rfl⟩
theorem Std.fit (h:Std l q s):np s.size≤l.length:=by
 have:=congrArg List.length h.eq;rw [List.length_take,ba] at this;omega
theorem Std.pos (h:Std l q s):1≤np s.size:=(cY s.size h.len).2.1
theorem Std.at' (h:Std l q s) (i:Nat) (hi:i<np s.size):l.getD i ⟨#[]⟩=bl q (i:Int) (np s.size:Int) (dt s i):=by
 rw [←xm q s i hi,←h.eq];simp [List.getD_eq_getElem?_getD,List.getElem?_take,hi]
theorem Std.fn {l:List ByteArray} {q:Int} {s:ByteArray} (h:Std l q s):fn l=np s.size:=by
 have h1:=h.at' 0 h.pos;have h2:=(sK q ((0:Nat):Int) (np s.size:Int) (dt s 0) (dP q s h.num h.len 0 h.pos)).2;unfold _root_.Go.Proofs.YtanaapfobpgibaaGreatDoor.Jr.fn;rw [h1];exact Int.ofNat.inj h2
theorem Std.fro (h:Std l q s):SM l where
 ne:=fun e=>by have:=h.fit;have:=h.pos;rw [e] at *;simp at *;omega
 one:=by rw [h.fn];exact h.pos
 fit:=by rw [h.fn];exact h.fit
 each:=fun i hi=>by
  rw [h.fn] at hi;rw [h.at' i hi];exact VI _ _ _ _ (dP q s h.num h.len i hi)
theorem Std.mq {l:List ByteArray} {q:Int} {s:ByteArray} (h:Std l q s):mq l=Ig q s:=by
 unfold _root_.Go.Proofs.YtanaapfobpgibaaGreatDoor.Jr.mq;rw [h.fn,h.eq];unfold eO;rw [List.map_map]
 conv=>rhs;rw [←List.map_id (Ig q s)]
 apply List.map_congr_left
 intro x hx;obtain ⟨i,hi,rfl⟩:=Ie hx;exact Zf _ _ _ _ (dP q s h.num h.len i hi)
theorem SM.std (h:SM l) (hw:Wh (mq l)):Std l ((mq l).getD 0 fZ).q ⟨(ct (mq l)).toArray⟩:=by
 have hs:(⟨(ct (mq l)).toArray⟩:ByteArray).size=(ct (mq l)).length:=by simp [ByteArray.size]
 obtain ⟨h1,h2⟩:=hw.total;refine ⟨?_,by rw [hs];exact h1,?_⟩
 ·exact (hw.sizes 0 (by rw [h.len];exact h.one)).2.2.2.1
 ·rw [hs,h2,h.len];unfold eO;rw [hw.back];unfold mq;rw [List.map_map]
  conv=>lhs;rw [←List.map_id (l.take (fn l))]
  apply List.map_congr_left
  intro x hx;obtain ⟨i,hi,rfl⟩:=List.mem_iff_getElem.1 hx;rw [List.length_take,Nat.min_eq_left h.fit] at hi;have:=h.each i hi;rw [List.getElem_take];have e:l.getD i ⟨#[]⟩=l[i]'(by have:=h.fit;omega):=by simp [List.getD_eq_getElem?_getD,List.getElem?_eq_getElem (show i<l.length by have:=h.fit;omega)]
  rw [e] at this;exact this.same.symm
def sd (l:List ByteArray) (q:Int):Option ByteArray:=
 if gs q=true∧(⟨(ct (mq l)).toArray⟩:ByteArray).size≤5865∧l.take (np (⟨(ct (mq l)).toArray⟩:ByteArray).size)=eO q ⟨(ct (mq l)).toArray⟩ then some ⟨(ct (mq l)).toArray⟩ else none
theorem rR (h:sd l q=some s):Std l q s:=by
 unfold sd at h;split at h
 ·rename_i hc
  cases h
  exact ⟨hc.1,hc.2.1,hc.2.2⟩
 ·cases h
theorem Std.ct (h:Std l q s):(⟨(ct (_root_.Go.Proofs.YtanaapfobpgibaaGreatDoor.Jr.mq l)).toArray⟩:ByteArray)=s:=by
 rw [h.mq,Zv q s h.len]
theorem Std.sd {l:List ByteArray} {q:Int} {s:ByteArray} (h:Std l q s):sd l q=some s:=by
 unfold _root_.Go.Proofs.YtanaapfobpgibaaGreatDoor.Jr.sd;rw [h.ct,if_pos ⟨h.num,h.len,h.eq⟩]
theorem Cp (h:∀s,¬Std l q s):sd l q=none:=by
 cases e:sd l q with
 | none=>rfl
 | some s=>exact absurd (rR e) (h s)
/- What the program's standing finds: sd. -/
theorem XO (hf:SM l) (hw:Wh (mq l)) (hq:((mq l).getD 0 fZ).q=q):sd l q=some ⟨(ct (mq l)).toArray⟩:=by
 have:=hf.std hw;rw [hq] at this;exact this.sd
theorem Np (hf:¬SM l):sd l q=none:=Cp fun s h=>hf h.fro
theorem Std.wh (h:Std l q s):Wh (_root_.Go.Proofs.YtanaapfobpgibaaGreatDoor.Jr.mq l):=by rw [h.mq];exact Xp q s h.num h.len
theorem Tj (hw:¬Wh (mq l)):sd l q=none:=Cp fun s h=>hw h.wh
theorem Std.q0 (h:Std l q s):((_root_.Go.Proofs.YtanaapfobpgibaaGreatDoor.Jr.mq l).getD 0 fZ).q=q:=by rw [h.mq,qh q s 0 h.pos]
theorem XP (hq:((mq l).getD 0 fZ).q≠q):sd l q=none:=Cp fun s h=>hq h.q0
def sdS (l:List ByteArray) (q:Int):ByteArray:=(sd l q).getD ⟨#[]⟩
def sdN (l:List ByteArray) (q:Int):Nat:=match sd l q with | some s=>np s.size | none=>0
theorem kK (h:sd l q=none):sdN l q=0:=by unfold sdN;rw [h]
theorem kJ (h:sd l q=none):sdS l q=⟨#[]⟩:=by unfold sdS;rw [h];rfl
theorem vr (h:sd l q=some s):sdN l q=np s.size:=by unfold sdN;rw [h]
theorem vq (h:sd l q=some s):sdS l q=s:=by unfold sdS;rw [h];rfl
/- The records. -/
def aU:Nat→List ByteArray→Nat→Nat→List (Int×ByteArray)
 | 0,_,_,_=>[]
 | f+1,l,q,a=>match sd l (q:Int) with
  | none=>[]
  | some s=>(((a+np s.size:Nat):Int),s)::aU f (l.drop (np s.size)) (q+1) (a+np s.size)
def sc:Nat→List ByteArray→Nat→List ByteArray×Nat
 | 0,_,_=>([],0)
 | f+1,l,q=>match sd l (q:Int) with
  | none=>([],0)
  | some s=>(s::(sc f (l.drop (np s.size)) (q+1)).1,np s.size+(sc f (l.drop (np s.size)) (q+1)).2)
theorem Tl {q:Nat} (h:sd l (q:Int)=none):sc f l q=([],0):=by
 cases f with
 | zero=>rfl
 | succ f=>rw [sc,h]
theorem Tk {q:Nat} (h:sd l (q:Int)=some s):sc (f+1) l q=(s::(sc f (l.drop (np s.size)) (q+1)).1,np s.size+(sc f (l.drop (np s.size)) (q+1)).2):=by
 rw [sc,h]
def qs (x:Int) (xs:List (Int×ByteArray)):Int:=xs.foldl (fun _ p=>p.1) x
theorem FZ (x:Int) (xs:List (Int×ByteArray)) (p:Int×ByteArray):qs x (xs++[p])=p.1:=by simp [qs]
theorem NG:∀(f:Nat) (l:List ByteArray) (q a:Nat),(aU f l q a).map (fun p=>p.2)=(sc f l q).1∧qs (a:Int) (aU f l q a)=((a+(sc f l q).2:Nat):Int)
 | 0,l,q,a=>by simp [aU,sc,qs]
 | f+1,l,q,a=>by
  unfold aU sc
  cases h:sd l (q:Int) with
  | none=>simp [qs]
  | some s=>
   obtain ⟨h1,h2⟩:=NG f (l.drop (np s.size)) (q+1) (a+np s.size);refine ⟨by simp [h1],?_⟩;show qs ((a+np s.size:Nat):Int) _=_
   rw [h2];simp only [Nat.add_assoc]
theorem zY:∀(f:Nat) (l:List ByteArray) (q:Nat),(sc f l q).1.length≤(sc f l q).2∧(sc f l q).2≤l.length∧(sc f l q).1.length≤f
 | 0,l,q=>by simp [sc]
 | f+1,l,q=>by
  unfold sc
  cases h:sd l (q:Int) with
  | none=>simp
  | some s=>
   obtain ⟨h1,h2,h3⟩:=zY f (l.drop (np s.size)) (q+1);have hf:=(rR h).fit;have hp:=(rR h).pos;rw [List.length_drop] at h2;simp only [List.length_cons];omega
/- The blocks of records. -/
def recs:Nat→List ByteArray→List ByteArray
 | _,[]=>[]
 | q,p::ps=>eO (q:Int) p++recs (q+1) ps
theorem yF:∀(ps:List ByteArray) (q:Nat) (p:ByteArray),recs q (ps++[p])=recs q ps++eO ((q+ps.length:Nat):Int) p
 | [],q,p=>by simp [recs]
 | x::ps,q,p=>by
  rw [List.cons_append,recs,yF ps (q+1) p,recs,List.append_assoc,List.length_cons,show q+1+ps.length=q+(ps.length+1) by omega]
def Noh (R:List ByteArray) (q:Nat):Prop:=∀s,¬Std R (q:Int) s
theorem Hz:∀(ps:List ByteArray) (f q:Nat) (R:List ByteArray),ps.length≤f→1≤q→q+ps.length≤65536→(∀p∈ps,p.size≤5865)→Noh R (q+ps.length)→sc f (recs q ps++R) q=(ps,(recs q ps).length)
 | [],f,q,R,hf,h1,h2,hs,hn=>by
  rw [recs,List.nil_append];exact Tl (Cp hn)
 | p::ps,f,q,R,hf,h1,h2,hs,hn=>by
  obtain ⟨f,rfl⟩:∃g,f=g+1:=⟨f - 1,by simp at hf;omega⟩;have hp:=hs p (by simp);simp only [List.length_cons] at hf h2 hn
  have acY:Std (recs q (p::ps)++R) (q:Int) p:=by
   refine ⟨?_,hp,?_⟩
   ·unfold gs;rw [Bool.and_eq_true];exact ⟨decide_eq_true (by omega),decide_eq_true (by omega)⟩
   ·rw [recs,List.append_assoc,List.take_left' (by simp)]
  have hd:(recs q (p::ps)++R).drop (np p.size)=recs (q+1) ps++R:=by
   rw [recs,List.append_assoc,List.drop_left' (by simp)]
  have ih:=Hz ps f (q+1) R (by omega) (by omega) (by omega) (fun x hx=>hs x (by simp [hx])) (by rw [show q+1+ps.length=q+(ps.length+1) by omega];exact hn);rw [Tk acY.sd,hd,ih,recs];simp
theorem TQ (q:Nat):Noh [] q:=fun s h=>by have:=h.fit;have:=h.pos;simp at *;omega
theorem KY (R:List ByteArray) (q:Nat):Noh (⟨#[]⟩::R) q:=fun s h=>by
 have h1:=h.fro.each 0 (by have:=h.fro.one;omega);have:=h1.size;simp [ByteArray.size] at this
theorem OG (t:ByteArray) (q k:Nat) (hq:gs (q:Int)=true) (ht:t.size≤5865) (hk:k<np t.size):Noh ((eO (q:Int) t).take k) q:=fun s h=>by
 have YR:=h.fit;rw [List.length_take,ba] at YR;have Uj:=h.pos;have h0:=h.at' 0 h.pos;have IP:0<k:=by omega
 have e1:((eO (q:Int) t).take k).getD 0 ⟨#[]⟩=bl (q:Int) ((0:Nat):Int) (np t.size:Int) (dt t 0):=by
  rw [←xm (q:Int) t 0 (by omega)];simp [List.getD_eq_getElem?_getD,List.getElem?_take,IP]
 rw [e1] at h0;have b1:=(sK (q:Int) ((0:Nat):Int) (np t.size:Int) (dt t 0) (dP _ t hq ht 0 (by omega))).2;have b2:=(sK (q:Int) ((0:Nat):Int) (np s.size:Int) (dt s 0) (dP _ s h.num h.len 0 h.pos)).2;rw [h0,b2] at b1;omega
theorem lf {t:ByteArray} (hq:gs q=true) (ht:t.size≤5865):∀x∈eO q t,x.size=32:=fun x hx=>by
 simp only [eO,List.mem_map] at hx;obtain ⟨y,hy,rfl⟩:=hx;obtain ⟨i,hi,rfl⟩:=Ie hy;exact (VI _ _ _ _ (dP q t hq ht i hi)).size
theorem yG:∀(ps:List ByteArray) (q:Nat),1≤q→q+ps.length≤65536→(∀p∈ps,p.size≤5865)→∀x∈recs q ps,x.size=32
 | [],q,_,_,_,x,hx=>by simp [recs] at hx
 | p::ps,q,h1,h2,h3,x,hx=>by
  simp only [List.length_cons] at h2;rw [recs] at hx;rcases List.mem_append.1 hx with hx | hx
  ·exact lf (by unfold gs;rw [Bool.and_eq_true];exact ⟨decide_eq_true (by omega),decide_eq_true (by omega)⟩) (h3 p (by simp)) x hx
  ·exact yG ps (q+1) (by omega) (by omega) (fun y hy=>h3 y (by simp [hy])) x hx
theorem Cy:∀(ps:List ByteArray) (q:Nat),(∀p∈ps,p.size≤5865)→ps.length≤(recs q ps).length
 | [],q,_=>by simp [recs]
 | p::ps,q,h=>by
  have:=Cy ps (q+1) (fun y hy=>h y (by simp [hy]));have:=(cY p.size (h p (by simp))).2.1;rw [recs,List.length_append,ba,List.length_cons];omega
end Go.Proofs.YtanaapfobpgibaaGreatDoor.Jr
