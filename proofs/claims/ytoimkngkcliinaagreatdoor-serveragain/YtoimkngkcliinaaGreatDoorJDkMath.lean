/- DkMath, DkA, DkB, joined. -/
import Derived.Maps.Own
import Derived.Maps.OwnSet
import Derived.Maps.Views
import Derived.WalkKit
import Derived.Test.YtoimkngkcliinaaGreatDoorChecked
import Derived.LoopTactic
import Derived.Maps.AppendAt
import Derived.Maps.OwnOps
import Derived.Maps.RangeWalk
import Derived.Maps.StringElems
import Derived.Laws.OwnMore
import Derived.Deep.AppendLies
import Derived.Deep.RegionHeld3
import Derived.Deep.RegionWith
import Derived.Deep.DrawnRows
namespace Go.Proofs.YtoimkngkcliinaaGreatDoor.Jr.Dk
open Go.Maps
set_option linter.unusedVariables false
set_option maxRecDepth 4000
set_option linter.unusedSimpArgs false
abbrev Bl:=Int→ByteArray
theorem nob_of {s:ByteArray} (h:s.size=0):s=⟨#[]⟩:=by
 obtain ⟨a⟩:=s;have:a.size=0:=h;rw [Array.eq_empty_of_size_eq_zero this]
theorem nob_no {s:ByteArray} (h:s.size≠0):s.toList.isEmpty=false:=by
 rw [ByteArray.toList_eq];obtain ⟨⟨l⟩⟩:=s
 cases l with
 | nil=>exact absurd rfl h
 | cons a l=>rfl
def setB (B:Bl) (x:Int) (s:ByteArray):Bl:=fun y=>if y=x then s else B y
@[simp] theorem setB_same (B:Bl) (x:Int) (s:ByteArray):setB B x s x=s:=by simp [setB]
theorem setB_other (B:Bl) {x y:Int} (s:ByteArray) (h:y≠x):setB B x s y=B y:=by simp [setB,h]
def fnI (l:List ByteArray):Bl:=fun x=>if 0≤x then l.getD x.toNat ⟨#[]⟩ else ⟨#[]⟩
def rp (B:Bl) (L:List (Int×ByteArray)):Bl:=L.foldl (fun B p=>setB B p.1 p.2) B
theorem rp_snoc (B:Bl) (L:List (Int×ByteArray)) (p:Int×ByteArray):rp B (L++[p])=setB (rp B L) p.1 p.2:=by simp [rp]
def Gp (p:Int×ByteArray):Prop:=0≤p.1∧p.1<2048∧p.2.size≤32
/- Texts that a disk may have. -/
structure Dom (f:Bl):Prop where
 at':∀x,(f x).size≠0→0≤x∧x<2048
 len:∀x,(f x).size≤32
theorem Dom.set {f:Bl} (h:Dom f) {x:Int} {s:ByteArray} (hg:Gp (x,s)):Dom (setB f x s) where
 at':=fun y hy=>by
  by_cases e:y=x
  ·subst e;exact ⟨hg.1,hg.2.1⟩
  ·rw [setB_other _ _ e] at hy;exact h.at' y hy
 len:=fun y=>by
  by_cases e:y=x
  ·subst e;rw [setB_same];exact hg.2.2
  ·rw [setB_other _ _ e];exact h.len y
theorem Dom.rp {f:Bl} (h:Dom f):∀(L:List (Int×ByteArray)),(∀p∈L,Gp p)→Dom (rp f L):=by
 intro L
 induction L generalizing f with
 | nil=>intro _;exact h
 | cons p L ih=>
  intro hL;exact ih (h.set (x:=p.1) (s:=p.2) (hL p (by simp))) (fun q hq=>hL q (by simp [hq]))
theorem getD_no {α:Type} {d:α} (l:List α) (i:Nat) (h:l.length≤i):l.getD i d=d:=by simp [List.getD_eq_getElem?_getD,List.getElem?_eq_none h]
theorem getD_yes {α:Type} {d:α} (l:List α) (i:Nat) (h:i<l.length):l.getD i d=l[i]:=by simp [List.getD_eq_getElem?_getD,List.getElem?_eq_getElem h]
theorem Dom.img {l:List ByteArray} (h1:l.length≤2048) (h2:∀t∈l,t.size≤32):Dom (fnI l) where
 at':=fun x hx=>by
  unfold fnI at hx;split at hx
  ·rename_i h0
   by_cases hl:x.toNat<l.length
   ·exact ⟨h0,by omega⟩
   ·rw [getD_no _ _ (by omega)] at hx;exact absurd rfl hx
  ·exact absurd rfl hx
 len:=fun x=>by
  unfold fnI;split
  ·by_cases hl:x.toNat<l.length
   ·rw [getD_yes _ _ hl];exact h2 _ (List.getElem_mem hl)
   ·rw [getD_no _ _ (by omega)];exact Nat.zero_le _
  ·exact Nat.zero_le _
theorem fnI_nil:fnI []=fun _=>⟨#[]⟩:=by funext x;unfold fnI;split <;> rfl
/- Behind the last text. -/
def topn (B:Bl):Nat→Nat
 | 0=>0
 | k+1=>if (B (k:Int)).size=0 then topn B k else k+1
theorem topn_le (B:Bl):∀k,topn B k≤k
 | 0=>Nat.le_refl _
 | k+1=>by unfold topn;split;exact Nat.le_succ_of_le (topn_le B k);exact Nat.le_refl _
theorem topn_last (B:Bl):∀k,topn B k=0∨(B ((topn B k:Nat) - 1:Int)).size≠0
 | 0=>.inl rfl
 | k+1=>by
  unfold topn;split
  ·exact topn_last B k
  ·rename_i h;right;simpa using h
theorem topn_above (B:Bl):∀k (i:Nat),topn B k≤i→i<k→(B (i:Int)).size=0
 | 0,_,_,h=>by omega
 | k+1,i,h1,h2=>by
  unfold topn at h1;split at h1
  ·rename_i h
   by_cases e:i=k
   ·subst e;exact h
   ·exact topn_above B k i h1 (by omega)
  ·omega
def top (B:Bl):Nat:=topn B 2048
theorem top_le (B:Bl):top B≤2048:=topn_le B 2048
theorem top_eq {B:Bl} {t:Nat} (h1:t≤2048) (h2:t=0∨(B ((t:Int) - 1)).size≠0) (h3:∀i:Nat,t≤i→i<2048→(B (i:Int)).size=0):top B=t:=by
 have hl:=topn_le B 2048;unfold top;rcases Nat.lt_trichotomy (topn B 2048) t with h | h | h
 ·rcases h2 with rfl | h2
  ·omega
  ·have:=topn_above B 2048 (t - 1) (by omega) (by omega);rw [show ((t - 1:Nat):Int)=(t:Int) - 1 by omega] at this;exact absurd this h2
 ·exact h
 ·rcases topn_last B 2048 with h0 | h0
  ·omega
  ·have:=h3 (topn B 2048 - 1) (by omega) (by omega);rw [show ((topn B 2048 - 1:Nat):Int)=(topn B 2048:Int) - 1 by omega] at this;exact absurd this h0
def tx (B:Bl) (n:Nat):List ByteArray:=(List.range n).map fun i:Nat=>B (i:Int)
@[simp] theorem tx_length (B:Bl) (n:Nat):(tx B n).length=n:=by simp [tx]
def im (B:Bl):List ByteArray:=tx B (top B)
theorem im_length (B:Bl):(im B).length=top B:=by simp [im]
/- A disk: the image that it began with, its writes, its power. -/
structure St where
 img:List ByteArray
 log:List (Int×ByteArray)
 left:Int
def St.bl (s:St):Bl:=rp (fnI s.img) s.log
structure St.Ok (s:St):Prop where
 i1:s.img.length≤2048
 i2:∀t∈s.img,t.size≤32
 l1:∀p∈s.log,Gp p
 p1: -1≤s.left
 p2:s.left≤9223372036854775807
theorem St.Ok.dom {s:St} (h:s.Ok):Dom s.bl:=(Dom.img h.i1 h.i2).rp _ h.l1
def nu:St:=⟨[],[],-1⟩
theorem nu_ok:nu.Ok:=⟨by simp [nu],by simp [nu],by simp [nu],by simp [nu],by simp [nu]⟩
def rf (left x:Int):Int:=if left=0 then 11 else if x<0∨2048≤x then 8 else 0
def we (left x:Int) (s:ByteArray):Int:=if left=0 then 11 else if x<0∨2048≤x then 8 else if 32<s.size then 9 else 0
def nl (left:Int):Int:=if left=-1 then -1 else left - 1
def nx (s:St) (x:Int) (t:ByteArray):St:=if we s.left x t=0 then ⟨s.img,s.log++[(x,t)],nl s.left⟩ else s
theorem we_good {left x:Int} {s:ByteArray} (h0:left≠0) (h:Gp (x,s)):we left x s=0:=by
 obtain ⟨h1,h2,h3⟩:=h;simp at h1 h2 h3;unfold we;rw [if_neg h0,if_neg (by omega),if_neg (by omega)]
/- Writes as cells of memory. -/
def cellsW (L:List (Int×ByteArray)):List Value:=L.flatMap fun p=>[.int .i64 p.1,.string p.2]
theorem cellsW_cons (p:Int×ByteArray) (L:List (Int×ByteArray)):cellsW (p::L)=.int .i64 p.1:: .string p.2::cellsW L:=rfl
theorem cellsW_append (L M:List (Int×ByteArray)):cellsW (L++M)=cellsW L++cellsW M:=by simp [cellsW]
theorem cellsW_length (L:List (Int×ByteArray)):(cellsW L).length=L.length * 2:=by
 induction L with
 | nil=>rfl
 | cons p L ih=>rw [cellsW_cons];simp [ih];omega
theorem cellsW_get (L:List (Int×ByteArray)):∀(i:Nat),i<L.length→(cellsW L)[i * 2]? =some (.int .i64 (L.getD i (0,⟨#[]⟩)).1)∧(cellsW L)[i * 2+1]? =some (.string (L.getD i (0,⟨#[]⟩)).2):=by
 induction L with
 | nil=>intro i h;simp at h
 | cons p L ih=>
  intro i h
  cases i with
  | zero=>simp [cellsW_cons]
  | succ i=>
   have:=ih i (by simpa using h);rw [cellsW_cons,show (i+1) * 2=i * 2+1+1 by omega]
   simpa using this
theorem cellsW_one (L:List (Int×ByteArray)):∀u∈cellsW L,u.oneCell'=true:=by
 intro u hu;simp [cellsW] at hu;obtain ⟨x,y,_,rfl | rfl⟩:=hu <;> rfl
def cellsS (l:List ByteArray):List Value:=l.map fun s=>.string s
@[simp] theorem cellsS_length (l:List ByteArray):(cellsS l).length=l.length:=by simp [cellsS]
theorem cellsS_set (l:List ByteArray) (i:Nat) (s:ByteArray):(cellsS l).set i (.string s)=cellsS (l.set i s):=by simp [cellsS,List.map_set]
/- A map that holds the texts that aren't empty. -/
def el (s:ByteArray):DataW Unit:=.lit (.string s.data.toList)
theorem el_inj {s t:ByteArray} (h:el s=el t):s=t:=by
 simp [el] at h;obtain ⟨a⟩:=s;obtain ⟨b⟩:=t;simp at h;rw [h]
structure MapIs (D:DataW Unit) (f:Bl):Prop where
 keys:∀kl,Maps.has D kl=true→∃x,kl=.int .i64 x∧(f x).size≠0∧∀z,D.atKey kl z=el (f x)
 has:∀x,(f x).size≠0→Maps.has D (.int .i64 x)=true
theorem MapIs.empty:MapIs (.map []) (fun _=>⟨#[]⟩) where
 keys:=fun kl h=>by simp [Maps.has] at h
 has:=fun x h=>absurd rfl h
theorem MapIs.put {D:DataW Unit} {f:Bl} (h:MapIs D f) (hD:IsMap D) (x:Int) {s:ByteArray} (hs:s.size≠0):MapIs (D.put (.int .i64 x) (el s)) (setB f x s) where
 keys:=fun kl hh=>by
  by_cases e:kl=.int .i64 x
  ·subst e;exact ⟨x,rfl,by simpa using hs,fun z=>by rw [setB_same];exact atKey_put_same hD (show WideAt.IsKeyLit (.int .i64 x) from trivial) _ _⟩
  ·rw [has_put_other e] at hh;obtain ⟨y,rfl,hy,hz⟩:=h.keys kl hh;have:y≠x:=fun hyx=>e (by rw [hyx])
   exact ⟨y,rfl,by rw [setB_other _ _ this];exact hy,fun z=>by rw [atKey_put_other e,setB_other _ _ this];exact hz z⟩
 has:=fun y hy=>by
  by_cases e:y=x
  ·subst e;exact has_put_same hD (show WideAt.IsKeyLit (.int .i64 y) from trivial) _
  ·rw [setB_other _ _ e] at hy;rw [has_put_other (fun hk=>e (by cases hk;rfl))];exact h.has y hy
theorem MapIs.del {D:DataW Unit} {f:Bl} (h:MapIs D f) (x:Int):MapIs (D.del (.int .i64 x)) (setB f x ⟨#[]⟩) where
 keys:=fun kl hh=>by
  by_cases e:kl=.int .i64 x
  ·subst e;rw [has_del_same] at hh;cases hh
  ·rw [has_del_other e] at hh;obtain ⟨y,rfl,hy,hz⟩:=h.keys kl hh;have:y≠x:=fun hyx=>e (by rw [hyx])
   exact ⟨y,rfl,by rw [setB_other _ _ this];exact hy,fun z=>by rw [atKey_del_other e,setB_other _ _ this];exact hz z⟩
 has:=fun y hy=>by
  by_cases e:y=x
  ·subst e;rw [setB_same] at hy;exact absurd rfl hy
  ·rw [setB_other _ _ e] at hy;rw [has_del_other (fun hk=>e (by cases hk;rfl))];exact h.has y hy
open Go.RowKit Go.Maps
theorem ret_int {k:IntKind} {a b:Int} (h:a=b):Ending.returned (.int k a)=.returned (.int k b):=by rw [h]
theorem ret_bool {a b:Bool} (h:a=b):Ending.returned (.bool a)=.returned (.bool b):=by rw [h]
theorem below1 (w:World) (o:Obj):Below w.heap.size w (w.alloc o):=(Below.refl _ w).alloc (Nat.le_refl _) o
theorem Below.more {w w':World} (h:Below w.heap.size w w') (o:Obj):Below w.heap.size w (w'.alloc o):=h.alloc h.size o
theorem cell_later {n:Nat} {w w':World} {a:Addr} {v:Value} (hb:Below n w w') (hn:w.heap.size≤n) (hc:w.cell? a=some v):w'.cell? a=some v:=
 (World.cell?_of_block (hb.block a.block (Nat.lt_of_lt_of_le (World.block_lt_of_cell? w a hc) hn))).trans hc
structure Kept (F:Nat→Prop) (w w':World):Prop where
 os:w'.os=w.os
 tape:w'.tape=w.tape
 output:w'.output=w.output
 size:w.heap.size≤w'.heap.size
 block:∀k,k<w.heap.size→¬F k→w'.heap[k]? =w.heap[k]?
theorem Kept.refl (F:Nat→Prop) (w:World):Kept F w w:=⟨rfl,rfl,rfl,Nat.le_refl _,fun _ _ _=>rfl⟩
theorem Kept.trans {F F':Nat→Prop} {a b c:World} (h:Kept F a b) (k:Kept F' b c) (hF:∀i,i<a.heap.size→F' i→F i):Kept F a c:=
 ⟨k.os.trans h.os,k.tape.trans h.tape,k.output.trans h.output,Nat.le_trans h.size k.size,fun i hi hn=>(k.block i (Nat.lt_of_lt_of_le hi h.size) (fun h'=>hn (hF i hi h'))).trans (h.block i hi hn)⟩
theorem Kept.mono {F F':Nat→Prop} {a b:World} (h:Kept F a b) (hF:∀i,i<a.heap.size→F i→F' i):Kept F' a b:=⟨h.os,h.tape,h.output,h.size,fun i hi hn=>h.block i hi (fun h'=>hn (hF i hi h'))⟩
theorem Kept.alloc {F:Nat→Prop} {a w:World} (h:Kept F a w) (o:Obj):Kept F a (w.alloc o):=
 h.trans (F':=F) ⟨rfl,rfl,rfl,by simp,fun k hk _=>Below.heap_alloc _ _ _ hk⟩ (fun _ _ h=>h)
theorem Kept.setCell {F:Nat→Prop} {a w:World} (h:Kept F a w) {p:Addr} (hp:p.block<a.heap.size→F p.block) (u:Value):Kept F a (w.setCell p u):=
 h.trans (F':=fun k=>k=p.block) ⟨rfl,rfl,rfl,by simp [World.setCell],fun k hk hn=>Below.heap_setCell _ _ _ _ hn⟩ (fun i hi e=>by subst e;exact hp hi)
theorem Kept.grown {F:Nat→Prop} {a w w':World} {row:Option Nat} (h:Kept F a w) (hg:w.grownBy w' row) (hr:∀k,row=some k→k<a.heap.size→F k):Kept F a w':=
 h.trans (F':=fun k=>row=some k) ⟨hg.os,hg.tape,hg.output,hg.size,fun k hk hn=>hg.block k hk (fun e=>hn e.symm)⟩ (fun i hi e=>hr i e hi)
theorem Kept.ofBelow {F:Nat→Prop} {w w':World} (h:Below w.heap.size w w'):Kept F w w':=⟨h.os,h.tape,h.output,h.size,fun k hk _=>h.block k hk⟩
theorem Kept.cell {F:Nat→Prop} {w w':World} (h:Kept F w w') {a:Addr} {v:Value} (hc:w.cell? a=some v) (hn:¬F a.block):w'.cell? a=some v:=
 (World.cell?_of_block (h.block a.block (World.block_lt_of_cell? w a hc) hn)).trans hc
theorem Kept.row {F:Nat→Prop} {w w':World} {base e size n:Nat} {v:Value} {xs:List Value} (h:Kept F w w') (hr:w.ownsRow base e size v n xs) (hn:∀k,v.ownBlock=some k→¬F k):w'.ownsRow base e size v n xs:=by
 refine ⟨hr.1,?_⟩;rcases hr.2 with h0 | ⟨g,cap,cur,rfl,hb,hgg,rest⟩
 ·exact .inl h0
 ·refine .inr ⟨g,cap,cur,rfl,hb,?_,rest⟩;rw [h.block g (Array.getElem?_eq_some_iff.1 hgg).1 (hn g rfl)];exact hgg
theorem Kept.map {F:Nat→Prop} {w w':World} {b n:Nat} {D:DataW Unit} {k:TypeId} {R:Value→Option (DataW Unit×List MemPlace)} (h:Kept F w w') (hm:w.ownsMap Tryz.prog k R b n D) (hb:¬F b):w'.ownsMap Tryz.prog k R b n D:=by
 have hlt:=hm.lt;obtain ⟨es,cl,hh,r⟩:=hm;exact ⟨es,cl,(h.block b hlt hb).trans hh,r⟩
theorem intK:Keyed Tryz.prog 3:=int_keyed Tryz.underlying3
def Om (w:World) (b n:Nat) (D:DataW Unit):Prop:=w.ownsMap Tryz.prog 3 (plainElem Tryz.prog 9) b n D
def Mp (w:World) (b n:Nat) (f:Bl):Prop:=∃D,Om w b n D∧MapIs D f
theorem Mp.kept {F:Nat→Prop} {w w':World} {b n:Nat} {f:Bl} (h:Mp w b n f) (hk:Kept F w w') (hb:¬F b):Mp w' b n f:=by
 obtain ⟨D,h1,h2⟩:=h;exact ⟨D,hk.map h1 hb,h2⟩
theorem Mp.lt {w:World} {b n:Nat} {f:Bl} (h:Mp w b n f):b<w.heap.size:=by
 obtain ⟨D,h1,_⟩:=h;exact World.ownsMap.lt h1
theorem Mp.isMap {w:World} {b n:Nat} {f:Bl} (h:Mp w b n f):∃es cl,w.heap[b]? =some (.map es cl):=by
 obtain ⟨D,⟨es,cl,h1,_⟩,_⟩:=h;exact ⟨es,cl,h1⟩
theorem wf_of {b:Int} (h1: -9223372036854775808≤b) (h2:b≤9223372036854775807):(Lit.int .i64 b).wf=true:=WalkArith.wf_i64 (by omega)
/- Texts that lie in a world from that place on. -/
def RdS (w:World) (a:Option Addr) (l:List ByteArray):Prop:=
 ∀i,i<l.length→∃b o,a=some ⟨b,o,none⟩∧w.cell? ⟨b,o+i,none⟩=some (.string (l.getD i ⟨#[]⟩))
def RdW (w:World) (a:Option Addr) (l:List (Int×ByteArray)):Prop:=
 ∀i,i<l.length→∃b o,a=some ⟨b,o,none⟩∧w.cell? ⟨b,o+i * 2,none⟩=some (.int .i64 (l.getD i (0,⟨#[]⟩)).1)∧w.cell? ⟨b,o+i * 2+1,none⟩=some (.string (l.getD i (0,⟨#[]⟩)).2)
theorem RdS.later {w w':World} {a:Option Addr} {l:List ByteArray} (h:RdS w a l) (hb:Below w.heap.size w w'):RdS w' a l:=fun i hi=>by
 obtain ⟨b,o,e,c0⟩:=h i hi;exact ⟨b,o,e,cell_later hb (Nat.le_refl _) c0⟩
theorem RdW.later {w w':World} {a:Option Addr} {l:List (Int×ByteArray)} (h:RdW w a l) (hb:Below w.heap.size w w'):RdW w' a l:=fun i hi=>by
 obtain ⟨b,o,e,c0,c1⟩:=h i hi;exact ⟨b,o,e,cell_later hb (Nat.le_refl _) c0,cell_later hb (Nat.le_refl _) c1⟩
theorem RdS.kept {F:Nat→Prop} {w w':World} {a:Option Addr} {l:List ByteArray} (h:RdS w a l) (hk:Kept F w w') (hF:∀b o,a=some ⟨b,o,none⟩→¬F b):RdS w' a l:=fun i hi=>by
 obtain ⟨b,o,e,c0⟩:=h i hi;exact ⟨b,o,e,hk.cell c0 (hF b o e)⟩
theorem add_plain (b o j:Nat):(⟨b,o,none⟩:Addr).add j=⟨b,o+j,none⟩:=by unfold Addr.add;split <;> simp_all
theorem RdW.news {w:World} {b o:Nat} {ks:List (Int×ByteArray)} (h:RdW w (some ⟨b,o,none⟩) ks):∀j u,(cellsW ks)[j]? =some u→w.cell? ((⟨b,o,none⟩:Addr).add j)=some u:=fun j u hu=>by
 have hj:j<ks.length * 2:=by
  rcases Nat.lt_or_ge j (cellsW ks).length with h' | h'
  ·rwa [cellsW_length] at h'
  ·rw [List.getElem?_eq_none h'] at hu;cases hu
 obtain ⟨b',o',e,c0,c1⟩:=h (j/2) (by omega);obtain ⟨eb,eo⟩:b=b'∧o=o':=by simpa using e
 rw [←eb,←eo] at c0 c1;have hg:=cellsW_get ks (j/2) (by omega);rw [add_plain];have hm:j%2=0∨j%2=1:=by omega
 rcases hm with hm | hm
 ·have e4:j/2 * 2=j:=by omega
  rw [e4] at hg c0;rw [hu] at hg;rw [c0];exact hg.1.symm
 ·have e4:j/2 * 2+1=j:=by omega
  rw [Nat.add_assoc,e4] at c1;rw [e4,hu] at hg;rw [c1];exact hg.2.symm
theorem cellsS_get (l:List ByteArray) (i:Nat) (h:i<l.length):(cellsS l)[i]? =some (.string (l.getD i ⟨#[]⟩)):=by
 simp [cellsS,List.getD_eq_getElem?_getD,List.getElem?_eq_getElem h]
/- Rows that a call has made. -/
def RwS (w:World) (N:Nat) (v:Value) (l:List ByteArray):Prop:=w.ownsRow N 9 1 v l.length (cellsS l)
def RwW (w:World) (N:Nat) (v:Value) (l:List (Int×ByteArray)):Prop:=w.ownsRow N 139 2 v l.length (cellsW l)
theorem row_spell {w:World} {N e z n:Nat} {v:Value} {xs:List Value} (h:w.ownsRow N e z v n xs):∃a cap,v=.slice a n cap:=by
 rcases h.2 with ⟨h0,h1⟩ | ⟨r,cap,cur,hv,_⟩
 ·exact ⟨none,0,by rw [h0,h1]⟩
 ·exact ⟨_,cap,hv⟩
theorem RwS.rd {w:World} {N:Nat} {a:Option Addr} {n cap:Nat} {l:List ByteArray} (h:RwS w N (.slice a n cap) l):RdS w a l:=fun i hi=>by
 rcases h.2 with ⟨h0,h1⟩ | ⟨g,cap',cur,hv,_,hb,_,_,_,h4⟩
 ·omega
 cases hv
 refine ⟨g,0,rfl,?_⟩
 have q:w.cell? ⟨g,0+i,none⟩=(cellsS l)[i]? :=by
  rw [←h4,List.getElem?_take_of_lt (by omega)];simp [World.cell?,hb]
 rw [q];exact cellsS_get l i hi
theorem RwW.rd {w:World} {N:Nat} {a:Option Addr} {n cap:Nat} {l:List (Int×ByteArray)} (h:RwW w N (.slice a n cap) l):RdW w a l:=fun i hi=>by
 rcases h.2 with ⟨h0,h1⟩ | ⟨g,cap',cur,hv,_,hb,_,_,_,h4⟩
 ·omega
 cases hv
 have e0:=cellsW_get l i hi
 have q:∀j,j<l.length * 2→w.cell? ⟨g,0+j,none⟩=(cellsW l)[j]? :=fun j hj=>by
  rw [←h4,List.getElem?_take_of_lt hj];simp [World.cell?,hb]
 refine ⟨g,0,rfl,?_,?_⟩
 ·rw [q _ (by omega)];exact e0.1
 ·have:=q (i * 2+1) (by omega);rw [←Nat.add_assoc] at this;rw [this];exact e0.2
theorem row_far {w:World} {N e z n:Nat} {a:Option Addr} {len cap:Nat} {xs:List Value} (h:w.ownsRow N e z (.slice a len cap) n xs):∀b o,a=some ⟨b,o,none⟩→N≤b∧b<w.heap.size:=fun b o e=>by
 subst e;exact h.lt b rfl
theorem row_later {B e k n:Nat} {v:Value} {xs:List Value} {w w':World} (h:w.ownsRow B e k v n xs) (hb:Below w.heap.size w w'):w'.ownsRow B e k v n xs:=(Kept.ofBelow (F:=fun _=>False) hb).row h (fun _ _ h=>h)
theorem infoW:(Tryz.prog.info? 139).map (fun i=>(i.zero,i.size,i.bytes))=some (some (.agg #[.int .i64 0,.string ⟨#[]⟩]),2,24):=by kernel_rfl
theorem infoS:(Tryz.prog.info? 9).map (fun i=>(i.zero,i.size,i.bytes))=some (some (.string ⟨#[]⟩),1,16):=by kernel_rfl
theorem cell_two_new (w:World) (x y:Value) (t:TypeId):∀j u,[x,y][j]? =some u→(w.alloc (.cells #[x,y] t)).cell? ((⟨w.heap.size,0,none⟩:Addr).add j)=some u:=by
 intro j u hj
 match j,hj with
 | 0,hj=>simp at hj;subst hj;simp [Addr.add,go_sem]
 | 1,hj=>simp at hj;subst hj;simp [Addr.add,go_sem]
theorem cell_two_at (w:World) (x y:Value) (t:TypeId) (n:Nat) (hn:n=w.heap.size):∀j u,[x,y][j]? =some u→(w.alloc (.cells #[x,y] t)).cell? ((⟨n,0,none⟩:Addr).add j)=some u:=by subst hn;exact cell_two_new w x y t
theorem blk_set {w:World} {g i:Nat} {cs:Array Value} {t:TypeId} (h:w.heap[g]? =some (.cells cs t)) (v:Value):(w.setCell ⟨g,i,none⟩ v).heap[g]? =some (.cells (cs.setIfInBounds i v) t):=heap_setCell_same w g i cs t v h
structure Dk (N:Nat) (w:World) (p:Nat) (s:St) (b m:Nat) (x:Value):Prop where
 blk:w.heap[p]? =some (.cells #[.map (some b),.map (some m),x,.int .i64 s.left] 132)
 mb:Mp w b (2048+s.log.length) s.bl
 mm:Mp w m 2048 (fnI s.img)
 row:RwW w N x s.log
 ne:b≠m
 np:N≤p
 nb:N≤b
 nm:N≤m
 ok:s.Ok
def Fd (p b m:Nat) (x:Value) (k:Nat):Prop:=k=p∨k=b∨k=m∨x.ownBlock=some k
section
variable {N:Nat} {w w':World} {p:Nat} {s:St} {b m:Nat} {x:Value}
theorem Dk.c0 (h:Dk N w p s b m x):w.cell? ⟨p,0,none⟩=some (.map (some b)):=by simp [World.cell?,h.blk]
theorem Dk.c2 (h:Dk N w p s b m x):w.cell? ⟨p,2,none⟩=some x:=by simp [World.cell?,h.blk]
theorem Dk.c3 (h:Dk N w p s b m x):w.cell? ⟨p,3,none⟩=some (.int .i64 s.left):=by simp [World.cell?,h.blk]
theorem Dk.plt (h:Dk N w p s b m x):p<w.heap.size:=(Array.getElem?_eq_some_iff.1 h.blk).1
theorem Dk.pb (h:Dk N w p s b m x):p≠b:=fun e=>by
 obtain ⟨es,cl,hh⟩:=h.mb.isMap;rw [←e,h.blk] at hh;cases hh
theorem Dk.pm (h:Dk N w p s b m x):p≠m:=fun e=>by
 obtain ⟨es,cl,hh⟩:=h.mm.isMap;rw [←e,h.blk] at hh;cases hh
theorem Dk.px (h:Dk N w p s b m x):∀k,x.ownBlock=some k→k≠p∧k≠b∧k≠m∧k<w.heap.size∧N≤k:=fun k hk=>by
 have hlt:=h.row.lt k hk;rcases h.row.2 with ⟨h0,_⟩ | ⟨g,cap,cur,rfl,hb,hgg,rest⟩
 ·subst h0;cases hk
 ·cases hk
  refine ⟨fun e=>?_,fun e=>?_,fun e=>?_,hlt.2,hlt.1⟩
  ·have e':g=p:=e;subst e';have q:=h.blk;rw [hgg] at q;simp at q
  ·have e':g=b:=e;subst e';obtain ⟨es,cl,hh⟩:=h.mb.isMap;rw [hgg] at hh;cases hh
  ·have e':g=m:=e;subst e';obtain ⟨es,cl,hh⟩:=h.mm.isMap;rw [hgg] at hh;cases hh
theorem Dk.inHeap (h:Dk N w p s b m x):∀k,Fd p b m x k→k<w.heap.size∧N≤k:=fun k hk=>by
 rcases hk with rfl | rfl | rfl | hk
 ·exact ⟨h.plt,h.np⟩
 ·exact ⟨h.mb.lt,h.nb⟩
 ·exact ⟨h.mm.lt,h.nm⟩
 ·exact ⟨(h.px k hk).2.2.2.1,(h.px k hk).2.2.2.2⟩
theorem Dk.kept (h:Dk N w p s b m x) {F:Nat→Prop} (hk:Kept F w w') (hF:∀k,Fd p b m x k→¬F k):Dk N w' p s b m x:=
 ⟨(hk.block p h.plt (hF p (.inl rfl))).trans h.blk,h.mb.kept hk (hF b (.inr (.inl rfl))),h.mm.kept hk (hF m (.inr (.inr (.inl rfl)))),hk.row h.row (fun k hv=>hF k (.inr (.inr (.inr hv)))),h.ne,h.np,h.nb,h.nm,h.ok⟩
theorem Dk.later (h:Dk N w p s b m x) (hb:Below w.heap.size w w'):Dk N w' p s b m x:=h.kept (Kept.ofBelow (F:=fun _=>False) hb) (fun _ _ h=>h)
theorem Dk.spell (h:Dk N w p s b m x):∃a cap,x=.slice a s.log.length cap:=row_spell h.row
/- The power is set. -/
theorem Dk.power (h:Dk N w p s b m x) (n:Int) (h1: -1≤n) (h2:n≤9223372036854775807):Dk N (w.setCell ⟨p,3,none⟩ (.int .i64 n)) p ⟨s.img,s.log,n⟩ b m x:=by
 have hk:Kept (fun k=>k=p) w (w.setCell ⟨p,3,none⟩ (.int .i64 n)):=(Kept.refl (fun k=>k=p) w).setCell (p:=⟨p,3,none⟩) (fun _=>rfl) _;refine ⟨?_,h.mb.kept hk (fun e=>h.pb e.symm),h.mm.kept hk (fun e=>h.pm e.symm),hk.row h.row (fun k hv=>(h.px k hv).1),h.ne,h.np,h.nb,h.nm,⟨h.ok.i1,h.ok.i2,h.ok.l1,h1,h2⟩⟩;rw [blk_set h.blk];simp
end
theorem on_any (N:Nat) (w:World) (p:Nat) (s:St) (b m:Nat) (x:Value) (h:Dk N w p s b m x):Calls Tryz.prog 15 #[.pointer (some ⟨p,0,none⟩)] w fun e w'=>e=.returned (.bool (decide (s.left≠0)))∧w'=w:=by
 have h3:=h.c3;clear h;obtain ⟨l,hl⟩:∃l,s.left=l:=⟨_,rfl⟩;rw [hl] at h3 ⊢;by_cases h0:l=0
 ·subst h0;go_enter Tryz.func15,Tryz.ntmps15;go_wp2
  go_ret;exact ⟨rfl,rfl⟩
 ·go_enter Tryz.func15,Tryz.ntmps15;go_wp2
  go_ret;exact ⟨ret_bool (by simp [h0]),rfl⟩
theorem refusal_any (N:Nat) (w:World) (p:Nat) (s:St) (b m:Nat) (x:Value) (h:Dk N w p s b m x) (at':Int):Calls Tryz.prog 269 #[.pointer (some ⟨p,0,none⟩),.int .i64 at'] w fun e w'=>e=.returned (.int .i64 (rf s.left at'))∧w'=w:=by
 have hon:=on_any N w p s b m x h;clear h;obtain ⟨l,hl⟩:∃l,s.left=l:=⟨_,rfl⟩;rw [hl] at hon ⊢;by_cases h0:l=0
 ·have e0:decide (l≠0)=false:=by simp [h0]
  rw [e0] at hon;go_enter Tryz.func269,Tryz.ntmps269;go_wp2_with (go_at_call 15;refine hon.mono ?_;rintro e w' ⟨rfl,rfl⟩)
  go_ret;exact ⟨ret_int (by simp [rf,h0]),rfl⟩
 ·have e0:decide (l≠0)=true:=by simp [h0]
  rw [e0] at hon;by_cases h1:at'<0
  ·go_enter Tryz.func269,Tryz.ntmps269;go_wp2_with (go_at_call 15;refine hon.mono ?_;rintro e w' ⟨rfl,rfl⟩)
   go_ret;exact ⟨ret_int (by simp [rf,h0,h1]),rfl⟩
  ·by_cases h2:2048≤at'
   ·have d1:decide (at'<0)=false:=by simp;omega
    go_enter Tryz.func269,Tryz.ntmps269;go_wp2_with (go_at_call 15;refine hon.mono ?_;rintro e w' ⟨rfl,rfl⟩)
    go_ret;exact ⟨ret_int (by simp [rf,h0,h2]),rfl⟩
   ·have d1:decide (at'<0)=false:=by simp;omega
    have d2:decide (2048≤at')=false:=by simp;omega
    go_enter Tryz.func269,Tryz.ntmps269;go_wp2_with (go_at_call 15;refine hon.mono ?_;rintro e w' ⟨rfl,rfl⟩)
    go_ret;exact ⟨ret_int (by simp [rf,h0,h1,h2]),rfl⟩
theorem new_any (w:World):Calls Tryz.prog 11 #[] w fun e w'=>∃p b m x,e=.returned (.pointer (some ⟨p,0,none⟩))∧Dk w.heap.size w' p nu b m x∧Below w.heap.size w w':=by
 have hmm:= @run_makeMap Tryz.prog;go_enter Tryz.func11,Tryz.ntmps11;go_wp2
 go_ret;have hb1:=below1 w (.map #[] 0);have hb2:=Below.more hb1 (.map #[] 0);have o1:=World.ownsMap_made (H:=Unit) w Tryz.prog 3 (plainElem Tryz.prog 9);have o2:=World.ownsMap_made (H:=Unit) (w.alloc (.map #[] 0)) Tryz.prog 3 (plainElem Tryz.prog 9);have es:(w.alloc (.map #[] 0)).heap.size=w.heap.size+1:=by simp
 have es2:((w.alloc (.map #[] 0)).alloc (.map #[] 0)).heap.size=w.heap.size+1+1:=by simp
 rw [es] at o2;have e0:nu.bl=fun _=>⟨#[]⟩:=by unfold St.bl nu rp;simp [fnI_nil]
 refine ⟨w.heap.size+1+1,w.heap.size,w.heap.size+1,.slice none 0 0,rfl,⟨?_,?_,?_,?_,?_,?_,?_,?_,nu_ok⟩,Below.more hb2 _⟩
 ·have:=heap_alloc_new ((w.alloc (.map #[] 0)).alloc (.map #[] 0)) (.cells #[.map (some w.heap.size),.map (some (w.heap.size+1)),.slice none 0 0,.int .i64 (-1)] 132);rw [es2] at this;exact this
 ·rw [e0];exact ⟨_,((o1.alloc _).alloc _).mono (Nat.zero_le _),MapIs.empty⟩
 ·have:fnI nu.img=fun _=>⟨#[]⟩:=fnI_nil
  rw [this];exact ⟨_,(o2.alloc _).mono (Nat.zero_le _),MapIs.empty⟩
 ·exact World.ownsRow_nil _ _ _ _
 ·omega
 ·omega
 ·omega
 ·omega
theorem put_any (b n:Nat) (at':Int) (s:ByteArray) (f:Bl) (w:World) (h:Mp w b n f) (hn:n<5864062090000) (hw:(Lit.int .i64 at').wf=true) (hs:s.size≤32):Calls Tryz.prog 44 #[.map (some b),.int .i64 at',.string s] w fun e w'=>e=.returned (.tuple #[])∧Mp w' b (n+1) (setB f at' s)∧Kept (fun k=>k=b) w w':=by
 obtain ⟨D,h1,h2⟩:=h;have HM:Hid (MapIs D f):=h2;have hD:=World.ownsMap.isMap h1;have hkey:=keyOf_int_mk Tryz.underlying3 hw;by_cases h0:s.size=0
 ·have e:=nob_of h0;subst e;go_enter Tryz.func44,Tryz.ntmps44
  go_wp2_with (first
   | (at_delete;refine wpList_delete_own _ rfl _ _ 130 3 rfl 9 intK Tryz.underlying130 _ b n D rfl h1 _ _ rfl hkey ?_;intro w1 hown1 hturn1)
   | fail)
  refine bodyPost_ret (results_none rfl _ _ _) rfl ?_;exact ⟨rfl,⟨_,World.ownsMap.mono hown1 (Nat.le_succ _),HM.out.del at'⟩,(Kept.refl _ w).grown hturn1.grown (fun k hk _=>by cases hk;rfl)⟩
 ·have hb1:s.toList.isEmpty=false:=nob_no h0;have hval:=plainElem_string (H:=Unit) Tryz.underlying9 (s:=s) (by unfold maxLen;omega);go_enter Tryz.func44,Tryz.ntmps44
  go_wp2_with (first
   | (at_mapUpdate;refine wpList_mapUpdate_own _ rfl _ _ _ 130 rfl 3 9 intK Tryz.underlying130 _ b n D rfl h1 (by unfold maxLen;omega) _ _ _ rfl rfl hkey _ [] hval ?_;intro w1 hown1 hgrow1)
   | fail)
  go_end0
  exact ⟨rfl,⟨_,hown1,HM.out.put hD at' h0⟩,(Kept.refl _ w).grown hgrow1 (fun k hk _=>by cases hk;rfl)⟩
end Go.Proofs.YtoimkngkcliinaaGreatDoor.Jr.Dk
