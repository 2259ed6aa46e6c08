/- DkMath, DkA, DkB, joined. -/
import Derived.WalkKit
import Derived.Test.YtanaapfobpgibaaGreatDoorChecked
import Derived.Maps.StringElems
import Derived.Deep.AppendLies
import Derived.Deep.RegionHeld3
import Derived.Deep.DrawnRows
open Go.Proofs.Tryz
namespace Go.Proofs.YtanaapfobpgibaaGreatDoor.Jr.Dk
open Go.Maps
set_option linter.unusedVariables false
set_option maxRecDepth 4000
set_option linter.unusedSimpArgs false
variable {s:ByteArray} {x:Int} {α:Type} {D:DataW Unit}
abbrev Bl:=Int→ByteArray
theorem FJ (h:s.size=0):s=⟨#[]⟩:=by
 obtain ⟨a⟩:=s;have:a.size=0:=h;rw [Array.eq_empty_of_size_eq_zero this]
theorem OH (h:s.size≠0):s.toList.isEmpty=false:=by
 rw [ByteArray.toList_eq];obtain ⟨⟨l⟩⟩:=s
 cases l with
 | nil=>exact absurd rfl h
 | cons a l=>rfl
def my (B:Bl) (x:Int) (s:ByteArray):Bl:=fun y=>if y=x then s else B y
@[simp] theorem nZ (B:Bl) (x:Int) (s:ByteArray):my B x s x=s:=by simp [my]
theorem dy (B:Bl) {y:Int} (s:ByteArray) (h:y≠x):my B x s y=B y:=by simp [my,h]
def kY (l:List ByteArray):Bl:=fun x=>if 0≤x then l.getD x.toNat ⟨#[]⟩ else ⟨#[]⟩
def rp (B:Bl) (L:List (Int×ByteArray)):Bl:=L.foldl (fun B p=>my B p.1 p.2) B
theorem Tp (B:Bl) (L:List (Int×ByteArray)) (p:Int×ByteArray):rp B (L++[p])=my (rp B L) p.1 p.2:=by simp [rp]
def Gp (p:Int×ByteArray):Prop:=0≤p.1∧p.1<2048∧p.2.size≤32
/- Texts that a disk may have. -/
structure My (f:Bl):Prop where
 at':∀x,(f x).size≠0→0≤x∧x<2048
 len:∀x,(f x).size≤32
theorem My.set {f:Bl} (h:My f) (hg:Gp (x,s)):My (my f x s) where
 at':=fun y hy=>by
  by_cases e:y=x
  ·subst e;exact ⟨hg.1,hg.2.1⟩
  ·rw [dy _ _ e] at hy;exact h.at' y hy
 len:=fun y=>by
  by_cases e:y=x
  ·subst e;rw [nZ];exact hg.2.2
  ·rw [dy _ _ e];exact h.len y
theorem My.rp {f:Bl} (h:My f):∀(L:List (Int×ByteArray)),(∀p∈L,Gp p)→My (rp f L):=by
 intro L
 induction L generalizing f with
 | nil=>intro _;exact h
 | cons p L ih=>
  intro hL;exact ih (h.set (x:=p.1) (s:=p.2) (hL p (by simp))) (fun q hq=>hL q (by simp [hq]))
theorem qK {d:α} (l:List α) (i:Nat) (h:l.length≤i):l.getD i d=d:=by simp [List.getD_eq_getElem?_getD,List.getElem?_eq_none h]
theorem jE {d:α} (l:List α) (i:Nat) (h:i<l.length):l.getD i d=l[i]:=by simp [List.getD_eq_getElem?_getD,List.getElem?_eq_getElem h]
theorem My.mX {l:List ByteArray} (h1:l.length≤2048) (h2:∀t∈l,t.size≤32):My (kY l) where
 at':=fun x hx=>by
  unfold kY at hx;split at hx
  ·rename_i h0
   by_cases hl:x.toNat<l.length
   ·exact ⟨h0,by omega⟩
   ·rw [qK _ _ (by omega)] at hx;exact absurd rfl hx
  ·exact absurd rfl hx
 len:=fun x=>by
  unfold kY;split
  ·by_cases hl:x.toNat<l.length
   ·rw [jE _ _ hl];exact h2 _ (List.getElem_mem hl)
   ·rw [qK _ _ (by omega)];exact Nat.zero_le _
  ·exact Nat.zero_le _
theorem Jb:kY []=fun _=>⟨#[]⟩:=by funext x;unfold kY;split <;> rfl
/- Behind the last text. -/
def rK (B:Bl):Nat→Nat
 | 0=>0
 | k+1=>if (B (k:Int)).size=0 then rK B k else k+1
theorem zO (B:Bl):∀k,rK B k≤k
 | 0=>Nat.le_refl _
 | k+1=>by unfold rK;split;exact Nat.le_succ_of_le (zO B k);exact Nat.le_refl _
theorem yx (B:Bl):∀k,rK B k=0∨(B ((rK B k:Nat) - 1:Int)).size≠0
 | 0=>.inl rfl
 | k+1=>by
  unfold rK;split
  ·exact yx B k
  ·rename_i h;right;simpa using h
theorem oX (B:Bl):∀k (i:Nat),rK B k≤i→i<k→(B (i:Int)).size=0
 | 0,_,_,h=>by omega
 | k+1,i,h1,h2=>by
  unfold rK at h1;split at h1
  ·rename_i h
   by_cases e:i=k
   ·subst e;exact h
   ·exact oX B k i h1 (by omega)
  ·omega
def top (B:Bl):Nat:=rK B 2048
theorem zS (B:Bl):top B≤2048:=zO B 2048
theorem MN {B:Bl} {t:Nat} (h1:t≤2048) (h2:t=0∨(B ((t:Int) - 1)).size≠0) (h3:∀i:Nat,t≤i→i<2048→(B (i:Int)).size=0):top B=t:=by
 have hl:=zO B 2048;unfold top;rcases Nat.lt_trichotomy (rK B 2048) t with h | h | h
 ·rcases h2 with rfl | h2
  ·omega
  ·have:=oX B 2048 (t - 1) (by omega) (by omega);rw [show ((t - 1:Nat):Int)=(t:Int) - 1 by omega] at this;exact absurd this h2
 ·exact h
 ·rcases yx B 2048 with h0 | h0
  ·omega
  ·have:=h3 (rK B 2048 - 1) (by omega) (by omega);rw [show ((rK B 2048 - 1:Nat):Int)=(rK B 2048:Int) - 1 by omega] at this;exact absurd this h0
def tx (B:Bl) (n:Nat):List ByteArray:=(List.range n).map fun i:Nat=>B (i:Int)
@[simp] theorem J4 (B:Bl) (n:Nat):(tx B n).length=n:=by simp [tx]
def im (B:Bl):List ByteArray:=tx B (top B)
theorem sB (B:Bl):(im B).length=top B:=by simp [im]
/- A disk: the image that it began with, its writes, its power. -/
structure St where
 mX:List ByteArray
 log:List (Int×ByteArray)
 left:Int
def St.bl (s:St):Bl:=rp (kY s.mX) s.log
structure St.Ok (s:St):Prop where
 i1:s.mX.length≤2048
 i2:∀t∈s.mX,t.size≤32
 l1:∀p∈s.log,Gp p
 p1: -1≤s.left
 p2:s.left≤9223372036854775807
theorem St.Ok.dom {s:St} (h:s.Ok):My s.bl:=(My.mX h.i1 h.i2).rp _ h.l1
def nu:St:=⟨[],[],-1⟩
theorem V0:nu.Ok:=⟨by simp [nu],by simp [nu],by simp [nu],by simp [nu],by simp [nu]⟩
def rf (left x:Int):Int:=if left=0 then 11 else if x<0∨2048≤x then 8 else 0
def we (left x:Int) (s:ByteArray):Int:=if left=0 then 11 else if x<0∨2048≤x then 8 else if 32<s.size then 9 else 0
def nl (left:Int):Int:=if left=-1 then -1 else left - 1
def nx (s:St) (x:Int) (t:ByteArray):St:=if we s.left x t=0 then ⟨s.mX,s.log++[(x,t)],nl s.left⟩ else s
theorem zJ {left:Int} (h0:left≠0) (h:Gp (x,s)):we left x s=0:=by
 obtain ⟨h1,h2,h3⟩:=h;simp at h1 h2 h3;unfold we;rw [if_neg h0,if_neg (by omega),if_neg (by omega)]
/- Writes as cells of memory. -/
def cU (L:List (Int×ByteArray)):List Value:=L.flatMap fun p=>[.int .i64 p.1,.string p.2]
theorem nz (p:Int×ByteArray) (L:List (Int×ByteArray)):cU (p::L)=.int .i64 p.1:: .string p.2::cU L:=rfl
theorem yh (L M:List (Int×ByteArray)):cU (L++M)=cU L++cU M:=by simp [cU]
theorem oN (L:List (Int×ByteArray)):(cU L).length=L.length * 2:=by
 induction L with
 | nil=>rfl
 | cons p L ih=>rw [nz];simp [ih];omega
theorem xd (L:List (Int×ByteArray)):∀(i:Nat),i<L.length→(cU L)[i * 2]? =some (.int .i64 (L.getD i (0,⟨#[]⟩)).1)∧(cU L)[i * 2+1]? =some (.string (L.getD i (0,⟨#[]⟩)).2):=by
 induction L with
 | nil=>intro i h;simp at h
 | cons p L ih=>
  intro i h
  cases i with
  | zero=>simp [nz]
  | succ i=>
   have:=ih i (by simpa using h);rw [nz,show (i+1) * 2=i * 2+1+1 by omega]
   simpa using this
theorem xc (L:List (Int×ByteArray)):∀u∈cU L,u.oneCell'=true:=by
 intro u hu;simp [cU] at hu;obtain ⟨x,y,_,rfl | rfl⟩:=hu <;> rfl
def bW (l:List ByteArray):List Value:=l.map fun s=>.string s
@[simp] theorem yi (l:List ByteArray):(bW l).length=l.length:=by simp [bW]
theorem GK (l:List ByteArray) (i:Nat) (s:ByteArray):(bW l).set i (.string s)=bW (l.set i s):=by simp [bW,List.map_set]
/- A map that holds the texts that aren't empty. -/
def el (s:ByteArray):DataW Unit:=.lit (.string s.data.toList)
theorem Zp {t:ByteArray} (h:el s=el t):s=t:=by
 simp [el] at h;obtain ⟨a⟩:=s;obtain ⟨b⟩:=t;simp at h;rw [h]
structure jL (D:DataW Unit) (f:Bl):Prop where
 keys:∀kl,Maps.has D kl=true→∃x,kl=.int .i64 x∧(f x).size≠0∧∀z,D.atKey kl z=el (f x)
 has:∀x,(f x).size≠0→Maps.has D (.int .i64 x)=true
theorem jL.empty:jL (.map []) (fun _=>⟨#[]⟩) where
 keys:=fun kl h=>by simp [Maps.has] at h
 has:=fun x h=>absurd rfl h
theorem jL.put {f:Bl} (h:jL D f) (hD:IsMap D) (x:Int) (hs:s.size≠0):jL (D.put (.int .i64 x) (el s)) (my f x s) where
 keys:=fun kl hh=>by
  by_cases e:kl=.int .i64 x
  ·subst e;exact ⟨x,rfl,by simpa using hs,fun z=>by rw [nZ];exact atKey_put_same hD (show WideAt.IsKeyLit (.int .i64 x) from trivial) _ _⟩
  ·rw [has_put_other e] at hh;obtain ⟨y,rfl,hy,hz⟩:=h.keys kl hh;have:y≠x:=fun hyx=>e (by rw [hyx])
   exact ⟨y,rfl,by rw [dy _ _ this];exact hy,fun z=>by rw [atKey_put_other e,dy _ _ this];exact hz z⟩
 has:=fun y hy=>by
  by_cases e:y=x
  ·subst e;exact has_put_same hD (show WideAt.IsKeyLit (.int .i64 y) from trivial) _
  ·rw [dy _ _ e] at hy;rw [has_put_other (fun hk=>e (by cases hk;rfl))];exact h.has y hy
theorem jL.del {f:Bl} (h:jL D f) (x:Int):jL (D.del (.int .i64 x)) (my f x ⟨#[]⟩) where
 keys:=fun kl hh=>by
  by_cases e:kl=.int .i64 x
  ·subst e;rw [has_del_same] at hh;cases hh
  ·rw [has_del_other e] at hh;obtain ⟨y,rfl,hy,hz⟩:=h.keys kl hh;have:y≠x:=fun hyx=>e (by rw [hyx])
   exact ⟨y,rfl,by rw [dy _ _ this];exact hy,fun z=>by rw [atKey_del_other e,dy _ _ this];exact hz z⟩
 has:=fun y hy=>by
  by_cases e:y=x
  ·subst e;rw [nZ] at hy;exact absurd rfl hy
  ·rw [dy _ _ e] at hy;rw [has_del_other (fun hk=>e (by cases hk;rfl))];exact h.has y hy
open Go.RowKit Go.Maps
variable {a:Option Addr} {N b cap e n z:Nat} {w w':World} {v:Value} {F:Nat→Prop} {xs:List Value} {f:Bl} {l:List ByteArray}
theorem aj {k:IntKind} {a b:Int} (h:a=b):Ending.returned (.int k a)=.returned (.int k b):=by rw [h]
theorem ae {a b:Bool} (h:a=b):Ending.returned (.bool a)=.returned (.bool b):=by rw [h]
theorem aX (w:World) (o:Obj):Below w.heap.size w (w.alloc o):=(Below.refl _ w).alloc (Nat.le_refl _) o
theorem Below.more (h:Below w.heap.size w w') (o:Obj):Below w.heap.size w (w'.alloc o):=h.alloc h.size o
theorem cell_later {a:Addr} (hb:Below n w w') (hn:w.heap.size≤n) (hc:w.cell? a=some v):w'.cell? a=some v:=
 (World.cell?_of_block (hb.block a.block (Nat.lt_of_lt_of_le (World.block_lt_of_cell? w a hc) hn))).trans hc
structure Kept (F:Nat→Prop) (w w':World):Prop where
 os:w'.os=w.os
 tape:w'.tape=w.tape
 output:w'.output=w.output
 size:w.heap.size≤w'.heap.size
 block:∀k,k<w.heap.size→¬F k→w'.heap[k]? =w.heap[k]?
theorem Kept.refl (F:Nat→Prop) (w:World):Kept F w w:=⟨rfl,rfl,rfl,Nat.le_refl _,fun _ _ _=>rfl⟩
theorem Kept.trans {F F':Nat→Prop} {a b c:World} (h:Kept F a b) (k:Kept F' b c) (hF:∀i,i<a.heap.size→F' i→F i):Kept F a c:=
 ⟨k.os.trans h.os,k.tape.trans h.tape,k.output.trans h.output,Nat.le_trans h.size k.size,fun i hi hn=>(k.block i (Nat.lt_of_lt_of_le hi h.size) (fun h'=>hn (hF i hi h'))).trans (h.block i hi hn)⟩
theorem Kept.mono {F':Nat→Prop} {a b:World} (h:Kept F a b) (hF:∀i,i<a.heap.size→F i→F' i):Kept F' a b:=⟨h.os,h.tape,h.output,h.size,fun i hi hn=>h.block i hi (fun h'=>hn (hF i hi h'))⟩
theorem Kept.alloc {a:World} (h:Kept F a w) (o:Obj):Kept F a (w.alloc o):=
 h.trans (F':=F) ⟨rfl,rfl,rfl,by simp,fun k hk _=>Below.heap_alloc _ _ _ hk⟩ (fun _ _ h=>h)
theorem Kept.setCell {F:Nat→Prop} {a w:World} (h:Kept F a w) {p:Addr} (hp:p.block<a.heap.size→F p.block) (u:Value):Kept F a (w.setCell p u):=
 h.trans (F':=fun k=>k=p.block) ⟨rfl,rfl,rfl,by simp [World.setCell],fun k hk hn=>Below.heap_setCell _ _ _ _ hn⟩ (fun i hi e=>by subst e;exact hp hi)
theorem Kept.grown {a:World} {row:Option Nat} (h:Kept F a w) (hg:w.grownBy w' row) (hr:∀k,row=some k→k<a.heap.size→F k):Kept F a w':=
 h.trans (F':=fun k=>row=some k) ⟨hg.os,hg.tape,hg.output,hg.size,fun k hk hn=>hg.block k hk (fun e=>hn e.symm)⟩ (fun i hi e=>hr i e hi)
theorem Kept.bb (h:Below w.heap.size w w'):Kept F w w':=⟨h.os,h.tape,h.output,h.size,fun k hk _=>h.block k hk⟩
theorem Kept.cell {F:Nat→Prop} {w w':World} (h:Kept F w w') {a:Addr} {v:Value} (hc:w.cell? a=some v) (hn:¬F a.block):w'.cell? a=some v:=
 (World.cell?_of_block (h.block a.block (World.block_lt_of_cell? w a hc) hn)).trans hc
theorem Kept.row {base size:Nat} (h:Kept F w w') (hr:w.ownsRow base e size v n xs) (hn:∀k,v.ownBlock=some k→¬F k):w'.ownsRow base e size v n xs:=by
 refine ⟨hr.1,?_⟩;rcases hr.2 with h0 | ⟨g,cap,cur,rfl,hb,Dh,rest⟩
 ·exact .inl h0
 ·refine .inr ⟨g,cap,cur,rfl,hb,?_,rest⟩;rw [h.block g (Array.getElem?_eq_some_iff.1 Dh).1 (hn g rfl)];exact Dh
theorem Kept.map {D:DataW Unit} {k:TypeId} {R:Value→Option (DataW Unit×List MemPlace)} (h:Kept F w w') (hm:w.ownsMap prog k R b n D) (hb:¬F b):w'.ownsMap prog k R b n D:=by
 have hlt:=hm.lt;obtain ⟨es,cl,hh,r⟩:=hm;exact ⟨es,cl,(h.block b hlt hb).trans hh,r⟩
theorem Ld:Keyed prog 3:=int_keyed underlying3
def Om (w:World) (b n:Nat) (D:DataW Unit):Prop:=w.ownsMap prog 3 (plainElem prog 9) b n D
def Mp (w:World) (b n:Nat) (f:Bl):Prop:=∃D,Om w b n D∧jL D f
theorem Mp.kept (h:Mp w b n f) (hk:Kept F w w') (hb:¬F b):Mp w' b n f:=by
 obtain ⟨D,h1,h2⟩:=h;exact ⟨D,hk.map h1 hb,h2⟩
theorem Mp.lt {w:World} {b n:Nat} {f:Bl} (h:Mp w b n f):b<w.heap.size:=by
 obtain ⟨D,h1,_⟩:=h;exact World.ownsMap.lt h1
theorem Mp.isMap (h:Mp w b n f):∃es cl,w.heap[b]? =some (.map es cl):=by
 obtain ⟨D,⟨es,cl,h1,_⟩,_⟩:=h;exact ⟨es,cl,h1⟩
theorem aas {b:Int} (h1: -9223372036854775808≤b) (h2:b≤9223372036854775807):(Lit.int .i64 b).wf=true:=WalkArith.wf_i64 (by omega)
/- Texts that lie in a world from that place on. -/
def iC (w:World) (a:Option Addr) (l:List ByteArray):Prop:=
 ∀i,i<l.length→∃b o,a=some ⟨b,o,none⟩∧w.cell? ⟨b,o+i,none⟩=some (.string (l.getD i ⟨#[]⟩))
def Z6 (w:World) (a:Option Addr) (l:List (Int×ByteArray)):Prop:=
 ∀i,i<l.length→∃b o,a=some ⟨b,o,none⟩∧w.cell? ⟨b,o+i * 2,none⟩=some (.int .i64 (l.getD i (0,⟨#[]⟩)).1)∧w.cell? ⟨b,o+i * 2+1,none⟩=some (.string (l.getD i (0,⟨#[]⟩)).2)
theorem iC.later (h:iC w a l) (hb:Below w.heap.size w w'):iC w' a l:=fun i hi=>by
 obtain ⟨b,o,e,c0⟩:=h i hi;exact ⟨b,o,e,cell_later hb (Nat.le_refl _) c0⟩
theorem Z6.later {l:List (Int×ByteArray)} (h:Z6 w a l) (hb:Below w.heap.size w w'):Z6 w' a l:=fun i hi=>by
 obtain ⟨b,o,e,c0,c1⟩:=h i hi;exact ⟨b,o,e,cell_later hb (Nat.le_refl _) c0,cell_later hb (Nat.le_refl _) c1⟩
theorem iC.kept (h:iC w a l) (hk:Kept F w w') (hF:∀b o,a=some ⟨b,o,none⟩→¬F b):iC w' a l:=fun i hi=>by
 obtain ⟨b,o,e,c0⟩:=h i hi;exact ⟨b,o,e,hk.cell c0 (hF b o e)⟩
theorem add_plain (b o j:Nat):(⟨b,o,none⟩:Addr).add j=⟨b,o+j,none⟩:=by unfold Addr.add;split <;> simp_all
theorem Z6.news {o:Nat} {ks:List (Int×ByteArray)} (h:Z6 w (some ⟨b,o,none⟩) ks):∀j u,(cU ks)[j]? =some u→w.cell? ((⟨b,o,none⟩:Addr).add j)=some u:=fun j u hu=>by
 have hj:j<ks.length * 2:=by
  rcases Nat.lt_or_ge j (cU ks).length with h' | h'
  ·rwa [oN] at h'
  ·rw [List.getElem?_eq_none h'] at hu;cases hu
 obtain ⟨b',o',e,c0,c1⟩:=h (j/2) (by omega);obtain ⟨eb,eo⟩:b=b'∧o=o':=by simpa using e
 rw [←eb,←eo] at c0 c1;have hg:=xd ks (j/2) (by omega);rw [add_plain];have hm:j%2=0∨j%2=1:=by omega
 rcases hm with hm | hm
 ·have e4:j/2 * 2=j:=by omega
  rw [e4] at hg c0;rw [hu] at hg;rw [c0];exact hg.1.symm
 ·have e4:j/2 * 2+1=j:=by omega
  rw [Nat.add_assoc,e4] at c1;rw [e4,hu] at hg;rw [c1];exact hg.2.symm
theorem xe (l:List ByteArray) (i:Nat) (h:i<l.length):(bW l)[i]? =some (.string (l.getD i ⟨#[]⟩)):=by
 simp [bW,List.getD_eq_getElem?_getD,List.getElem?_eq_getElem h]
/- Rows that a call has made. -/
def ym (w:World) (N:Nat) (v:Value) (l:List ByteArray):Prop:=w.ownsRow N 9 1 v l.length (bW l)
def Sz (w:World) (N:Nat) (v:Value) (l:List (Int×ByteArray)):Prop:=w.ownsRow N 89 2 v l.length (cU l)
theorem eF (h:w.ownsRow N e z v n xs):∃a cap,v=.slice a n cap:=by
 rcases h.2 with ⟨h0,h1⟩ | ⟨r,cap,cur,hv,_⟩
 ·exact ⟨none,0,by rw [h0,h1]⟩
 ·exact ⟨_,cap,hv⟩
theorem ym.rd (h:ym w N (.slice a n cap) l):iC w a l:=fun i hi=>by
 rcases h.2 with ⟨h0,h1⟩ | ⟨g,cap',cur,hv,_,hb,_,_,_,h4⟩
 ·omega
 cases hv
 refine ⟨g,0,rfl,?_⟩
 have q:w.cell? ⟨g,0+i,none⟩=(bW l)[i]? :=by
  rw [←h4,List.getElem?_take_of_lt (by omega)];simp [World.cell?,hb]
 rw [q];exact xe l i hi
theorem Sz.rd {l:List (Int×ByteArray)} (h:Sz w N (.slice a n cap) l):Z6 w a l:=fun i hi=>by
 rcases h.2 with ⟨h0,h1⟩ | ⟨g,cap',cur,hv,_,hb,_,_,_,h4⟩
 ·omega
 cases hv
 have e0:=xd l i hi
 have q:∀j,j<l.length * 2→w.cell? ⟨g,0+j,none⟩=(cU l)[j]? :=fun j hj=>by
  rw [←h4,List.getElem?_take_of_lt hj];simp [World.cell?,hb]
 refine ⟨g,0,rfl,?_,?_⟩
 ·rw [q _ (by omega)];exact e0.1
 ·have:=q (i * 2+1) (by omega);rw [←Nat.add_assoc] at this;rw [this];exact e0.2
theorem b9 {len:Nat} (h:w.ownsRow N e z (.slice a len cap) n xs):∀b o,a=some ⟨b,o,none⟩→N≤b∧b<w.heap.size:=fun b o e=>by
 subst e;exact h.lt b rfl
theorem aQ {B k:Nat} (h:w.ownsRow B e k v n xs) (hb:Below w.heap.size w w'):w'.ownsRow B e k v n xs:=(Kept.bb (F:=fun _=>False) hb).row h (fun _ _ h=>h)
theorem Wf:(prog.info? 89).map (fun i=>(i.zero,i.size,i.bytes))=some (some (.agg #[.int .i64 0,.string ⟨#[]⟩]),2,24):=by kernel_rfl
theorem IG:(prog.info? 9).map (fun i=>(i.zero,i.size,i.bytes))=some (some (.string ⟨#[]⟩),1,16):=by kernel_rfl
theorem cell_two_new (w:World) (x y:Value) (t:TypeId):∀j u,[x,y][j]? =some u→(w.alloc (.cells #[x,y] t)).cell? ((⟨w.heap.size,0,none⟩:Addr).add j)=some u:=by
 intro j u hj
 match j,hj with
 | 0,hj=>simp at hj;subst hj;simp [Addr.add,go_sem]
 | 1,hj=>simp at hj;subst hj;simp [Addr.add,go_sem]
theorem DW (w:World) (x y:Value) (t:TypeId) (n:Nat) (hn:n=w.heap.size):∀j u,[x,y][j]? =some u→(w.alloc (.cells #[x,y] t)).cell? ((⟨n,0,none⟩:Addr).add j)=some u:=by subst hn;exact cell_two_new w x y t
theorem jc {g i:Nat} {cs:Array Value} {t:TypeId} (h:w.heap[g]? =some (.cells cs t)) (v:Value):(w.setCell ⟨g,i,none⟩ v).heap[g]? =some (.cells (cs.setIfInBounds i v) t):=heap_setCell_same w g i cs t v h
structure Dk (N:Nat) (w:World) (p:Nat) (s:St) (b m:Nat) (x:Value):Prop where
 blk:w.heap[p]? =some (.cells #[.map (some b),.map (some m),x,.int .i64 s.left] 81)
 mb:Mp w b (2048+s.log.length) s.bl
 mm:Mp w m 2048 (kY s.mX)
 row:Sz w N x s.log
 ne:b≠m
 np:N≤p
 nb:N≤b
 nm:N≤m
 ok:s.Ok
def Fd (p b m:Nat) (x:Value) (k:Nat):Prop:=k=p∨k=b∨k=m∨x.ownBlock=some k
section
variable {N:Nat} {w w':World} {p:Nat} {s:St} {b m:Nat} {x:Value}
theorem Dk.c0 (h:Dk N w p s b m x):w.cell? ⟨p,0,none⟩=some (.map (some b)):=by simp [World.cell?,h.blk]
theorem Dk.c2 (h:Dk N w p s b m x):w.cell? ⟨p,2,none⟩=some x:=by simp [World.cell?,h.blk]
theorem Dk.c3 (h:Dk N w p s b m x):w.cell? ⟨p,3,none⟩=some (.int .i64 s.left):=by simp [World.cell?,h.blk]
theorem Dk.fr (h:Dk N w p s b m x) (j:Nat):w.frozen? ⟨p,j,none⟩=false:=by simp [World.frozen?,h.blk]
theorem Dk.plt (h:Dk N w p s b m x):p<w.heap.size:=(Array.getElem?_eq_some_iff.1 h.blk).1
theorem Dk.pb (h:Dk N w p s b m x):p≠b:=fun e=>by
 obtain ⟨es,cl,hh⟩:=h.mb.isMap;rw [←e,h.blk] at hh;cases hh
theorem Dk.pm (h:Dk N w p s b m x):p≠m:=fun e=>by
 obtain ⟨es,cl,hh⟩:=h.mm.isMap;rw [←e,h.blk] at hh;cases hh
theorem Dk.px (h:Dk N w p s b m x):∀k,x.ownBlock=some k→k≠p∧k≠b∧k≠m∧k<w.heap.size∧N≤k:=fun k hk=>by
 have hlt:=h.row.lt k hk;rcases h.row.2 with ⟨h0,_⟩ | ⟨g,cap,cur,rfl,hb,Dh,rest⟩
 ·subst h0;cases hk
 ·cases hk
  refine ⟨fun e=>?_,fun e=>?_,fun e=>?_,hlt.2,hlt.1⟩
  ·have e':g=p:=e;subst e';have q:=h.blk;rw [Dh] at q;simp at q
  ·have e':g=b:=e;subst e';obtain ⟨es,cl,hh⟩:=h.mb.isMap;rw [Dh] at hh;cases hh
  ·have e':g=m:=e;subst e';obtain ⟨es,cl,hh⟩:=h.mm.isMap;rw [Dh] at hh;cases hh
theorem Dk.kB (h:Dk N w p s b m x):∀k,Fd p b m x k→k<w.heap.size∧N≤k:=fun k hk=>by
 rcases hk with rfl | rfl | rfl | hk
 ·exact ⟨h.plt,h.np⟩
 ·exact ⟨h.mb.lt,h.nb⟩
 ·exact ⟨h.mm.lt,h.nm⟩
 ·exact ⟨(h.px k hk).2.2.2.1,(h.px k hk).2.2.2.2⟩
theorem Dk.kept (h:Dk N w p s b m x) {F:Nat→Prop} (hk:Kept F w w') (hF:∀k,Fd p b m x k→¬F k):Dk N w' p s b m x:=
 ⟨(hk.block p h.plt (hF p (.inl rfl))).trans h.blk,h.mb.kept hk (hF b (.inr (.inl rfl))),h.mm.kept hk (hF m (.inr (.inr (.inl rfl)))),hk.row h.row (fun k hv=>hF k (.inr (.inr (.inr hv)))),h.ne,h.np,h.nb,h.nm,h.ok⟩
theorem Dk.later (h:Dk N w p s b m x) (hb:Below w.heap.size w w'):Dk N w' p s b m x:=h.kept (Kept.bb (F:=fun _=>False) hb) (fun _ _ h=>h)
theorem Dk.spell (h:Dk N w p s b m x):∃a cap,x=.slice a s.log.length cap:=eF h.row
/- The power is set. -/
theorem Dk.VW (h:Dk N w p s b m x) (n:Int) (h1: -1≤n) (h2:n≤9223372036854775807):Dk N (w.setCell ⟨p,3,none⟩ (.int .i64 n)) p ⟨s.mX,s.log,n⟩ b m x:=by
 have hk:Kept (fun k=>k=p) w (w.setCell ⟨p,3,none⟩ (.int .i64 n)):=(Kept.refl (fun k=>k=p) w).setCell (p:=⟨p,3,none⟩) (fun _=>rfl) _;refine ⟨?_,h.mb.kept hk (fun e=>h.pb e.symm),h.mm.kept hk (fun e=>h.pm e.symm),hk.row h.row (fun k hv=>(h.px k hv).1),h.ne,h.np,h.nb,h.nm,⟨h.ok.i1,h.ok.i2,h.ok.l1,h1,h2⟩⟩;rw [jc h.blk];simp
end
theorem mL (N:Nat) (w:World) (p:Nat) (s:St) (b m:Nat) (x:Value) (h:Dk N w p s b m x):Calls prog 59 #[.pointer (some ⟨p,0,none⟩)] w fun e w'=>e=.returned (.bool (decide (s.left≠0)))∧w'=w:=by
 have h3:=h.c3;clear h;obtain ⟨l,hl⟩:∃l,s.left=l:=⟨_,rfl⟩;rw [hl] at h3 ⊢;by_cases h0:l=0
 ·subst h0;go_enter func59,ntmps59;go_wp2
  go_ret;exact ⟨rfl,rfl⟩
 ·go_enter func59,ntmps59;go_wp2
  go_ret;exact ⟨ae (by simp [h0]),rfl⟩
theorem Cx (N:Nat) (w:World) (p:Nat) (s:St) (b m:Nat) (x:Value) (h:Dk N w p s b m x) (at':Int):Calls prog 179 #[.pointer (some ⟨p,0,none⟩),.int .i64 at'] w fun e w'=>e=.returned (.int .i64 (rf s.left at'))∧w'=w:=by
 have iF:=mL N w p s b m x h;clear h;obtain ⟨l,hl⟩:∃l,s.left=l:=⟨_,rfl⟩;rw [hl] at iF ⊢;by_cases h0:l=0
 ·have e0:decide (l≠0)=false:=by simp [h0]
  rw [e0] at iF;go_enter func179,ntmps179;go_wp2_with (go_at_call 59;refine iF.mono ?_;rintro e w' ⟨rfl,rfl⟩)
  go_ret;exact ⟨aj (by simp [rf,h0]),rfl⟩
 ·have e0:decide (l≠0)=true:=by simp [h0]
  rw [e0] at iF;by_cases h1:at'<0
  ·go_enter func179,ntmps179;go_wp2_with (go_at_call 59;refine iF.mono ?_;rintro e w' ⟨rfl,rfl⟩)
   go_ret;exact ⟨aj (by simp [rf,h0,h1]),rfl⟩
  ·by_cases h2:2048≤at'
   ·have d1:decide (at'<0)=false:=by simp;omega
    go_enter func179,ntmps179;go_wp2_with (go_at_call 59;refine iF.mono ?_;rintro e w' ⟨rfl,rfl⟩)
    go_ret;exact ⟨aj (by simp [rf,h0,h2]),rfl⟩
   ·have d1:decide (at'<0)=false:=by simp;omega
    have d2:decide (2048≤at')=false:=by simp;omega
    go_enter func179,ntmps179;go_wp2_with (go_at_call 59;refine iF.mono ?_;rintro e w' ⟨rfl,rfl⟩)
    go_ret;exact ⟨aj (by simp [rf,h0,h1,h2]),rfl⟩
theorem Xt (N:Nat) (w:World) (p:Nat) (s:St) (b m:Nat) (x:Value) (h:Dk N w p s b m x) (n:Int) (h2:n≤9223372036854775807):Calls prog 8 #[.pointer (some ⟨p,0,none⟩),.int .i64 n] w fun e w'=>e=.returned (.tuple #[])∧Dk N w' p ⟨s.mX,s.log,max n (-1)⟩ b m x∧Kept (Fd p b m x) w w':=by
 have h3:=h.c3;have hf:=h.fr 3;have hp:=h.VW (max n (-1)) (by omega) (by omega);have hk:Kept (Fd p b m x) w (w.setCell ⟨p,3,none⟩ (.int .i64 (max n (-1)))):=(Kept.refl _ w).setCell (fun _=>.inl rfl) _;clear h;by_cases h0:n< -1
 ·have e:max n (-1)=-1:=by omega
  rw [e] at hp hk ⊢;go_enter func8,ntmps8;go_wp2
  go_end0
  exact ⟨rfl,by simpa using hp,by simpa using hk⟩
 ·have e:max n (-1)=n:=by omega
  rw [e] at hp hk ⊢;have d1:decide (n< -1)=false:=by simp;omega
  go_enter func8,ntmps8;go_wp2
  go_end0
  exact ⟨rfl,by simpa using hp,by simpa using hk⟩
theorem qo (w:World):Calls prog 5 #[] w fun e w'=>∃p b m x,e=.returned (.pointer (some ⟨p,0,none⟩))∧Dk w.heap.size w' p nu b m x∧Below w.heap.size w w':=by
 have hmm:= @run_makeMap prog;go_enter func5,ntmps5;go_wp2
 go_ret;have hb1:=aX w (.map #[] 0);have hb2:=Below.more hb1 (.map #[] 0);have o1:=World.ownsMap_made (H:=Unit) w prog 3 (plainElem prog 9);have o2:=World.ownsMap_made (H:=Unit) (w.alloc (.map #[] 0)) prog 3 (plainElem prog 9);have es:(w.alloc (.map #[] 0)).heap.size=w.heap.size+1:=by simp
 have es2:((w.alloc (.map #[] 0)).alloc (.map #[] 0)).heap.size=w.heap.size+1+1:=by simp
 rw [es] at o2;have e0:nu.bl=fun _=>⟨#[]⟩:=by unfold St.bl nu rp;simp [Jb]
 refine ⟨w.heap.size+1+1,w.heap.size,w.heap.size+1,.slice none 0 0,rfl,⟨?_,?_,?_,?_,?_,?_,?_,?_,V0⟩,Below.more hb2 _⟩
 ·have:=heap_alloc_new ((w.alloc (.map #[] 0)).alloc (.map #[] 0)) (.cells #[.map (some w.heap.size),.map (some (w.heap.size+1)),.slice none 0 0,.int .i64 (-1)] 81);rw [es2] at this;exact this
 ·rw [e0];exact ⟨_,((o1.alloc _).alloc _).mono (Nat.zero_le _),jL.empty⟩
 ·have:kY nu.mX=fun _=>⟨#[]⟩:=Jb
  rw [this];exact ⟨_,(o2.alloc _).mono (Nat.zero_le _),jL.empty⟩
 ·exact World.ownsRow_nil _ _ _ _
 ·omega
 ·omega
 ·omega
 ·omega
theorem uB (b n:Nat) (at':Int) (s:ByteArray) (f:Bl) (w:World) (h:Mp w b n f) (hn:n<5864062090000) (hw:(Lit.int .i64 at').wf=true) (hs:s.size≤32):Calls prog 180 #[.map (some b),.int .i64 at',.string s] w fun e w'=>e=.returned (.tuple #[])∧Mp w' b (n+1) (my f at' s)∧Kept (fun k=>k=b) w w':=by
 obtain ⟨D,h1,h2⟩:=h;have HM:Hid (jL D f):=h2;have hD:=World.ownsMap.isMap h1;have hkey:=keyOf_int_mk underlying3 hw;by_cases h0:s.size=0
 ·have e:=FJ h0;subst e;go_enter func180,ntmps180
  go_wp2_with (first
   | (at_delete;refine wpList_delete_own _ rfl _ _ 79 3 rfl 9 Ld underlying79 _ b n D rfl h1 _ _ rfl hkey ?_;intro w1 hown1 hturn1)
   | fail)
  refine bodyPost_ret (results_none rfl _ _ _) rfl ?_;exact ⟨rfl,⟨_,World.ownsMap.mono hown1 (Nat.le_succ _),HM.out.del at'⟩,(Kept.refl _ w).grown hturn1.grown (fun k hk _=>by cases hk;rfl)⟩
 ·have hb1:s.toList.isEmpty=false:=OH h0;have hval:=plainElem_string (H:=Unit) underlying9 (s:=s) (by unfold maxLen;omega);go_enter func180,ntmps180
  go_wp2_with (first
   | (at_mapUpdate;refine wpList_mapUpdate_own _ rfl _ _ _ 79 rfl 3 9 Ld underlying79 _ b n D rfl h1 (by unfold maxLen;omega) _ _ _ rfl rfl hkey _ [] hval ?_;intro w1 hown1 YP)
   | fail)
  go_end0
  exact ⟨rfl,⟨_,hown1,HM.out.put hD at' h0⟩,(Kept.refl _ w).grown YP (fun k hk _=>by cases hk;rfl)⟩
end Go.Proofs.YtanaapfobpgibaaGreatDoor.Jr.Dk
