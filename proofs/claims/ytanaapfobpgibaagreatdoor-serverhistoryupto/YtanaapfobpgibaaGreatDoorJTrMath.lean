/- TrMath, TrA, TrS, TrB, joined. -/
import Derived.Test.YtanaapfobpgibaaGreatDoorJRtMath
import Derived.Test.YtanaapfobpgibaaGreatDoorJShpMath
open Go.Proofs.Tryz
set_option maxHeartbeats 1000000
namespace Go.Proofs.YtanaapfobpgibaaGreatDoor
open Rt (Ky zK bF eH tj kE Ez Ey yZ gd Gd)
open Rs (En zE aU lW oA cN tk fC)
open Sh (bc sj km hasB)
set_option linter.unusedVariables false
set_option maxRecDepth 4000
set_option linter.unusedSimpArgs false
variable {k n s:Nat} {p:Nat→Bool} {v:Int}
theorem aj {k:IntKind} {a b:Int} (h:a=b):Ending.returned (.int k a)=.returned (.int k b):=by rw [h]
theorem ae {a b:Bool} (h:a=b):Ending.returned (.bool a)=.returned (.bool b):=by rw [h]
structure Tr where
 ep:Int
 fr:Int
 ks:Nat→Ky
 ro:Nat→En
def aC (t:Tr):Array Value:=#[.int .i64 t.ep,.int .i64 t.fr]++(bF t.ks++aU t.ro)
@[simp] theorem aZ (t:Tr):(aC t).size=236:=by simp [aC]
theorem Cf (t:Tr):(aC t)[0]? =some (.int .i64 t.ep):=by
 unfold aC;rw [Array.getElem?_append_left (by simp)];rfl
theorem Ce (t:Tr):(aC t)[1]? =some (.int .i64 t.fr):=by
 unfold aC;rw [Array.getElem?_append_left (by simp)];rfl
theorem rM (t:Tr) (j:Nat) (h:j<42):(aC t)[2+j]? =(bF t.ks)[j]? :=by
 unfold aC;rw [Array.getElem?_append_right (by simp)];simp only [List.size_toArray,List.length_cons,List.length_nil,Nat.zero_add,Nat.reduceAdd,Nat.add_sub_cancel_left];rw [Array.getElem?_append_left (by simpa using h)]
theorem oZ (t:Tr) (j:Nat):(aC t)[44+j]? =(aU t.ro)[j]? :=by
 have e:44+j - (#[Value.int .i64 t.ep,.int .i64 t.fr]:Array Value).size - (bF t.ks).size=j:=by
  rw [Rt.bH];show 44+j - 2 - 42=j
  omega
 unfold aC;rw [Array.getElem?_append_right (by simp;omega),Array.getElem?_append_right (by rw [Rt.bH];show 42≤44+j - 2;omega),e]
theorem j5 (t:Tr):(aC t).all (·.oneCell')=true:=by
 unfold aC;rw [Array.all_append,Array.all_append,Rt.qx,Rs.H6];simp [Value.oneCell']
/- Names and steps against Fresh and Epoch. -/
def DB (t:Tr) (v:Nat):Bool:=decide ((t.ks v).aB<t.fr)&&decide ((t.ks v).bp≤t.ep)
def sH (t:Tr):Bool:=(List.range 21).all (DB t)
def Pb (k:Nat→Ky) (x:Int):Bool:=(List.range 21).any fun v=>decide ((k v).aB=x)
def Gu (t:Tr) (s:Nat):Bool:=decide ((t.ro s).aB<t.fr)&&(decide ((t.ro s).dx≤t.ep)&& !Pb t.ks (t.ro s).aB)
def qQ (t:Tr):Bool:=(List.range 64).all (Gu t)
def uq (t:Tr):Bool:=decide (0≤t.ep)&&(decide (t.ep≤200)&&(decide (22≤t.fr)&&decide (t.fr≤32768)))
def gu (t:Tr):Bool:=uq t&&(eH t.ks&&(lW t.ro&&(sH t&&qQ t)))
def J8 (t:Tr):Int:=if gu t then 0 else 31
theorem p_ {t:Tr} (h:gu t=true):J8 t=0:=by unfold J8;rw [h];rfl
theorem b8 {t:Tr} (h:gu t=false):J8 t=31:=by unfold J8;rw [h];rfl
theorem gm (h:∀j,j<n→p j=true):(List.range n).all p=true:=by
 rw [List.all_eq_true];exact fun x hx=>h x (List.mem_range.1 hx)
theorem G9 (h:(List.range n).all p=true) (hk:k<n):p k=true:=by
 rw [List.all_eq_true] at h;exact h k (List.mem_range.2 hk)
theorem e9 (hk:k<n) (h:p k=false):(List.range n).all p=false:=by
 rw [Bool.eq_false_iff];intro hc;rw [G9 hc hk] at h;cases h
theorem q9 (hk:k<n) (h:p k=true):(List.range n).any p=true:=by
 rw [List.any_eq_true];exact ⟨k,List.mem_range.2 hk,h⟩
theorem Bv (h:∀j,j<n→p j=false):(List.range n).any p=false:=by
 rw [Bool.eq_false_iff];intro hc;rw [List.any_eq_true] at hc;obtain ⟨i,hi,h2⟩:=hc;rw [h i (List.mem_range.1 hi)] at h2;cases h2
theorem ZY (h:(List.range n).any p=false) (hk:k<n):p k=false:=by
 rw [Bool.eq_false_iff];intro hc;rw [q9 hk hc] at h;cases h
/- What a right tree has. -/
structure Right (t:Tr):Prop where
 e0:0≤t.ep
 e1:t.ep≤200
 f0:22≤t.fr
 f1:t.fr≤32768
 ks:eH t.ks=true
 ro:lW t.ro=true
 fk:∀v,v<21→(t.ks v).aB<t.fr∧(t.ks v).bp≤t.ep
 fs:∀s,s<64→(t.ro s).aB<t.fr∧(t.ro s).dx≤t.ep∧∀v,v<21→(t.ks v).aB≠(t.ro s).aB
theorem di {t:Tr} (h:gu t=true):Right t:=by
 unfold gu at h;rw [Bool.and_eq_true,Bool.and_eq_true,Bool.and_eq_true,Bool.and_eq_true] at h;obtain ⟨h1,h2,h3,h4,h5⟩:=h;unfold uq at h1;rw [Bool.and_eq_true,Bool.and_eq_true,Bool.and_eq_true] at h1;obtain ⟨a,b,c,d⟩:=h1;refine ⟨of_decide_eq_true a,of_decide_eq_true b,of_decide_eq_true c,of_decide_eq_true d,h2,h3,fun v hv=>?_,fun s hs=>?_⟩
 ·have:=G9 h4 hv;unfold DB at this;rw [Bool.and_eq_true] at this;exact ⟨of_decide_eq_true this.1,of_decide_eq_true this.2⟩
 ·have:=G9 h5 hs;unfold Gu at this;rw [Bool.and_eq_true,Bool.and_eq_true] at this;obtain ⟨x,y,z⟩:=this;refine ⟨of_decide_eq_true x,of_decide_eq_true y,fun v hv=>?_⟩;have z':Pb t.ks (t.ro s).aB=false:=by simpa using z
  exact of_decide_eq_false (ZY z' hv)
theorem Right.ent {t:Tr} (h:Right t) (hs:s<64):Rs.H4 (t.ro s)=true:=by
 have:=Rs.Q1 h.ro hs;unfold Rs.FD at this;rw [Bool.and_eq_true] at this;exact this.1
theorem Right.taken {t:Tr} (h:Right t) (hs:s<64) (ht:cN (t.ro s)=true):1≤(t.ro s).aB∧(t.ro s).aB<32768∧1≤(t.ro s).dx∧(t.ro s).dx≤200∧0≤(t.ro s).who∧(t.ro s).who<256:=by
 have:=h.ent hs;unfold Rs.H4 at this;rw [ht,if_pos rfl] at this;simp [Rs.fw,Rs.mv,Rs.w_] at this;omega
/- An entry's leaf key in a right tree. -/
theorem Right.leaf {t:Tr} (h:Right t) (hs:s<64) (ht:cN (t.ro s)=true):kE (t.ro s).aB (t.ro s).dx t.ep=0:=by
 obtain ⟨a,b,c,d,_,_⟩:=h.taken hs ht;have:=(h.fs s hs).2.1;have:=h.e1;exact Rt.FV (by omega) (Rt.FU a b c d) (by omega) (by omega)
theorem K7 {t:Tr} (ht:cN (t.ro s)=false):kE (t.ro s).aB (t.ro s).dx t.ep=16:=by
 have hb:(t.ro s).aB=0:=by simpa [cN] using ht
 rw [hb];exact Rt.AA
/- The key of a node. -/
def V1 (v:Int):Bool:=decide (0≤v)&&decide (v<85)
def x8 (t:Tr) (v:Int):Int:=if gu t then (if V1 v then (if v<21 then 0 else kE (t.ro (v - 21).toNat).aB (t.ro (v - 21).toNat).dx t.ep) else 2) else 31
def x7 (t:Tr) (v:Int):Ky:=if x8 t v=0 then (if v<21 then t.ks v.toNat else ⟨(t.ro (v - 21).toNat).aB,t.ep - (t.ro (v - 21).toNat).dx⟩) else zK
def nS (t:Tr) (v:Int):Ending:=.returned (.tuple #[.agg #[.int .i64 (x7 t v).aB,.int .i64 (x7 t v).bp],.int .i64 (x8 t v)])
theorem nS.no {t:Tr} {x:Int} (h:x8 t v=x) (hx:x≠0):Ending.returned (.tuple #[.agg #[.int .i64 0,.int .i64 0],.int .i64 x])=nS t v:=by
 unfold nS x7;rw [h,if_neg hx];rfl
theorem nS.inner {t:Tr} {v:Nat} (h:x8 t v=0) (hv:v<21):Ending.returned (.tuple #[.agg #[.int .i64 (t.ks v).aB,.int .i64 (t.ks v).bp],.int .i64 0])=nS t v:=by
 unfold nS x7;rw [h,if_pos rfl,if_pos (by omega),Int.toNat_natCast]
theorem O7 {t:Tr} (h:gu t=true) (h2:V1 v=false):x8 t v=2:=by unfold x8;rw [h,h2];rfl
theorem jm {t:Tr} (h:gu t=true) (h0:0≤v) (h1:v<21):x8 t v=0:=by
 unfold x8;rw [h,if_pos rfl,show V1 v=true by simp [V1];omega,if_pos rfl,if_pos h1]
theorem qu {t:Tr} (h:gu t=true) (hs:s<64):x8 t (21+(s:Int))=kE (t.ro s).aB (t.ro s).dx t.ep:=by
 unfold x8;rw [h,if_pos rfl,show V1 (21+(s:Int))=true by simp [V1];omega,if_pos rfl,if_neg (by omega),show (21+(s:Int) - 21).toNat=s by omega]
theorem nS.leaf {t:Tr} (h:gu t=true) (hs:s<64):Rt.dv (t.ro s).aB (t.ro s).dx t.ep=nS t (21+(s:Int)):=by
 have e:=qu h hs;have e2:(21+(s:Int) - 21).toNat=s:=by omega
 unfold nS Rt.dv;by_cases h0:kE (t.ro s).aB (t.ro s).dx t.ep=0
 ·unfold x7 Ez Ey;rw [e,h0,if_pos rfl,if_pos rfl,if_pos rfl,if_neg (by omega),e2]
 ·unfold x7 Ez Ey;rw [e,if_neg h0,if_neg h0,if_neg h0];rfl
/- A slot's path. -/
def pn (s i:Nat):Nat:=if i=0 then 5+s/4 else if i=1 then 1+s/16 else 0
theorem sZ (hs:s<64) (i:Nat):pn s i<21:=by
 unfold pn;split
 ·omega
 ·split <;> omega
/- Held nodes. -/
def ug (r:Nat→En) (v:Int):Bool:=(List.range 64).any fun s=>cN (r s)&&bc v (21+(s:Int))
theorem Hm (r:Nat→En) (hs:s<64):hasB ((tk r:Nat):Int) s=cN (r s):=by rw [Sh.m9,Rs.lz r hs]
theorem Uv (r:Nat→En) (v:Int):km ((tk r:Nat):Int) v 64=ug r v:=by
 rw [Bool.eq_iff_iff,Sh.om];unfold ug;rw [List.any_eq_true];constructor
 ·rintro ⟨s,hs,h1,h2⟩;exact ⟨s,List.mem_range.2 hs,by rw [←Hm r hs,h1,h2];rfl⟩
 ·rintro ⟨s,hs,h⟩;rw [Bool.and_eq_true] at h;exact ⟨s,List.mem_range.1 hs,by rw [Hm r (List.mem_range.1 hs)];exact h.1,h.2⟩
open Go.RowKit
open Rt (Ky zK bF bq cK WL Zo)
open Rs (En zE aU bg jW Ml Zn)
set_option maxRecDepth 20000
variable {w w':World} {B n:Nat} {t:Tr} {a:Act} {v:Value} {T:TypeId} {ops:Array Oper} {o:Oper} {Q:Exit→Act→World→Prop} {c:Array Value}
theorem jz:(prog.info? 39).map (·.size)=some 236:=by kernel_rfl
def az (w:World) (B:Nat) (t:Tr):Prop:=w.heap[B]? =some (.cells (aC t) 39 (0,0))
theorem az.lt (h:az w B t):B<w.heap.size:=(Array.getElem?_eq_some_iff.1 h).1
theorem az.below (h:az w B t) (hb:Below n w w') (hn:B<n):az w' B t:=(hb.block B hn).trans h
theorem az.later (h:az w B t) (hb:Below w.heap.size w w'):az w' B t:=h.below hb h.lt
theorem az.new (w:World) (t:Tr):az (w.alloc (.cells (aC t) 39)) w.heap.size t:=heap_alloc_last w _
theorem cG (w:World) (t:Tr):Below w.heap.size w (w.alloc (.cells (aC t) 39)):=(Below.refl _ w).alloc (Nat.le_refl _) _
theorem aa (w:World) (o:Obj):Below w.heap.size w (w.alloc o):=(Below.refl _ w).alloc (Nat.le_refl _) _
theorem aG (w:World):Below w.heap.size w w.drew:=⟨rfl,rfl,rfl,Nat.le_refl _,fun _ _=>rfl⟩
theorem bj (w:World) (n:Nat):Below w.heap.size w (w.drewN n):=⟨rfl,rfl,rfl,Nat.le_refl _,fun _ _=>rfl⟩
theorem bz {a:Addr} (h:w.cell? a=some v) (o:Obj):(w.alloc o).cell? a=some v:=cell_later ((Below.refl _ w).alloc (Nat.le_refl _) o) h
theorem az.cells (h:az w B t):w.cell? ⟨B,0,none⟩=some (.int .i64 t.ep)∧w.cell? ⟨B,1,none⟩=some (.int .i64 t.fr):=
 ⟨(cell_of_row w B _ _ _ _ h).trans (Cf t),(cell_of_row w B _ _ _ _ h).trans (Ce t)⟩
theorem az.key (h:az w B t) (k:Nat) (hk:k<21):w.cell? ⟨B,2+k * 2,none⟩=some (.int .i64 (t.ks k).aB)∧w.cell? ⟨B,2+k * 2+1,none⟩=some (.int .i64 (t.ks k).bp):=by
 obtain ⟨h0,h1⟩:=Rt.AE t.ks k hk;exact ⟨(cell_of_row w B _ _ _ _ h).trans ((rM t _ (by omega)).trans h0),by rw [Nat.add_assoc];exact (cell_of_row w B _ _ _ _ h).trans ((rM t _ (by omega)).trans h1)⟩
theorem az.ent (h:az w B t) (k:Nat) (hk:k<64):w.cell? ⟨B,44+k * 3,none⟩=some (.int .i64 (t.ro k).who)∧w.cell? ⟨B,44+k * 3+1,none⟩=some (.int .i64 (t.ro k).aB)∧w.cell? ⟨B,44+k * 3+2,none⟩=some (.int .i64 (t.ro k).dx):=by
 obtain ⟨h0,h1,h2⟩:=Rs.Ae t.ro k hk;exact ⟨(cell_of_row w B _ _ _ _ h).trans ((oZ t _).trans h0),by rw [Nat.add_assoc];exact (cell_of_row w B _ _ _ _ h).trans ((oZ t _).trans h1),by rw [Nat.add_assoc];exact (cell_of_row w B _ _ _ _ h).trans ((oZ t _).trans h2)⟩
/- A part of a row, loaded as one value. -/
theorem jx {cs:Array Value} {T0:TypeId} {fz:Nat×Nat} (h:w.heap[B]? =some (.cells cs T0 fz)) {d:TypeDesc} (hu:prog.underlying T=some d)
  (hd:(match d with | .struct _ | .array _ _=>true | _=>false)=true) (hi:(prog.info? T).map (·.size)=some n) (o:Nat) {ds:Array Value} (hn:ds.size=n) (hp:∀j,j<n→cs[o+j]? =ds[j]?):
  (Instr.loadAt T (.pointer (some ⟨B,o,none⟩))).run prog w=.ok (.agg ds) w:=by
 have hl:(loadCells ⟨B,o,none⟩ ds.toList.length).run prog w=.ok ds.toList.toArray w:=
  run_loadCells_list (P:=prog) w ⟨B,o,none⟩ ds.toList (fun j v hv=>by
   have uh:(⟨B,o,none⟩:Addr).add j=⟨B,o+j,none⟩:=by unfold Addr.add;split <;> simp_all
   have hv':ds[j]? =some v:=by simpa using hv
   have hj:j<n:=by have:=(Array.getElem?_eq_some_iff.1 hv').1;omega
   rw [uh,cell_of_row w B (o+j) _ _ _ h,hp j hj]
   exact hv')
 cases hq:prog.info? T with
 | none=>rw [hq] at hi;simp at hi
 | some i=>
  have hs:i.size=n:=by rw [hq] at hi;simpa using hi
  have hagg:(isAgg T).run prog w=.ok true w:=by
   unfold isAgg;rw [Sem.run_bind,run_underlying hu w];cases d <;> simp_all
  simp only [Array.length_toList,Array.toArray_toList,hn] at hl;simp only [Instr.loadAt,Instr.sureAddr,Sem.run_bind,Sem.run_pure,Result.andThen];simp only [loadVar,Sem.run_bind,hagg,sizeOf,typeInfo,hq,hs];simp [hl,Sem.run_bind,typeInfo,hq,hs]
theorem fe {rest:List Oper} (hw:Region.wanted o (yielded ops a.tmps)=true) (hrun:(execOp a.eval o).run prog w=.ok (.value v) w)
  (k:wpList prog ops Q rest (a.put o.dst v) w):wpList prog ops Q (o::rest) a w:=by
 refine wpList_step fun K hK=>?_
 rw [if_pos hw];unfold Oper.wp;rw [hrun,Oper.upon_value];exact hK _ _ k
theorem bB {o:Nat} (h:(Instr.loadAt T (.pointer (some ⟨B,o,none⟩))).run prog w=.ok v w) {p:Oper} {x:Operand} (ho:p.op=.load T x) (hx:a.eval x=.pointer (some ⟨B,o,none⟩)):
  (execOp a.eval p).run prog w=.ok (.value v) w:=by
 simp [execOp,ho,hx,h,Sem.run_bind,Result.andThen]
theorem az.whole (h:az w B t):(Instr.loadAt 39 (.pointer (some ⟨B,0,none⟩))).run prog w=.ok (.agg (aC t)) w:=
 jx h underlying39 rfl jz 0 (aZ t) fun j hj=>by rw [Nat.zero_add]
theorem az.keys (h:az w B t):(Instr.loadAt 33 (.pointer (some ⟨B,2,none⟩))).run prog w=.ok (.agg (bF t.ks)) w:=
 jx h underlying33 rfl Rt.tu 2 (Rt.bH _) fun j hj=>rM t j hj
theorem az.acq (h:az w B t):(Instr.loadAt 37 (.pointer (some ⟨B,44,none⟩))).run prog w=.ok (.agg (aU t.ro)) w:=
 jx h underlying37 rfl Rs.sA 44 (Rs.fg _) fun j hj=>oZ t j
/- The same in a walk: the value as a letter. -/
theorem pV {rest:List Oper} (h:az w B t) (hc:aC t=c) (x:Operand) (ho:o.op=.load 39 x)
  (hx:a.eval x=.pointer (some ⟨B,0,none⟩)) (hw:Region.wanted o (yielded ops a.tmps)=true) (k:wpList prog ops Q rest (a.put o.dst (.agg c)) w):wpList prog ops Q (o::rest) a w:=
 fe hw (bB (hc ▸ h.whole) ho hx) k
theorem rdK {rest:List Oper} (h:az w B t) (hc:bF t.ks=c) (x:Operand) (ho:o.op=.load 33 x)
  (hx:a.eval x=.pointer (some ⟨B,2,none⟩)) (hw:Region.wanted o (yielded ops a.tmps)=true) (k:wpList prog ops Q rest (a.put o.dst (.agg c)) w):wpList prog ops Q (o::rest) a w:=
 fe hw (bB (hc ▸ h.keys) ho hx) k
theorem ND {rest:List Oper} (h:az w B t) (hc:aU t.ro=c) (x:Operand) (ho:o.op=.load 37 x)
  (hx:a.eval x=.pointer (some ⟨B,44,none⟩)) (hw:Region.wanted o (yielded ops a.tmps)=true) (k:wpList prog ops Q rest (a.put o.dst (.agg c)) w):wpList prog ops Q (o::rest) a w:=
 fe hw (bB (hc ▸ h.acq) ho hx) k
/- '==' of whole trees. -/
def eqT (t u:Tr):Bool:=decide (t.ep=u.ep)&&(decide (t.fr=u.fr)&&(Zo t.ks u.ks&&Zn t.ro u.ro))
theorem Qz (t:Tr):eqT t t=true:=by unfold eqT;rw [Rt.QC,Rs.QA];simp
theorem Ks (d:Nat) (f g:Nat→Ky) (w:World):(Op.equalIn (d+3) 33 (.agg (bF f)) (.agg (bF g))).run prog w=.ok (Zo f g) w:=by
 obtain ⟨i,hi⟩:=Option.isSome_iff_exists.mp Rt.T6;rw [run_equalIn_array w (d+2) _ _ underlying33 hi];have h:=Rt.DK f g d w (List.range 21) fun i hi=>List.mem_range.1 hi
 rw [Rt.Q2];exact h
theorem Kr (d:Nat) (f g:Nat→En) (w:World):(Op.equalIn (d+3) 37 (.agg (aU f)) (.agg (aU g))).run prog w=.ok (Zn f g) w:=by
 obtain ⟨i,hi⟩:=Option.isSome_iff_exists.mp Rs.T7;rw [run_equalIn_array w (d+2) _ _ underlying37 hi];have h:=Rs.zq f g d w (List.range 64) fun i hi=>List.mem_range.1 hi
 rw [Rs.Q3];exact h
theorem Qx (t:Tr):(aC t).extract 2 44=bF t.ks:=by
 apply Array.ext
 ·simp
 ·intro i h1 h2;have hi:i<42:=by simpa using h2
  rw [Array.getElem_extract];have:=rM t i hi;rw [Array.getElem?_eq_getElem (by simp;omega),Array.getElem?_eq_getElem (by simpa using hi)] at this;exact Option.some.inj this
theorem Qw (t:Tr):(aC t).extract 44 236=aU t.ro:=by
 apply Array.ext
 ·simp
 ·intro i h1 h2;have hi:i<192:=by simpa using h2
  rw [Array.getElem_extract];have:=oZ t i;rw [Array.getElem?_eq_getElem (by simp;omega),Array.getElem?_eq_getElem (by simpa using hi)] at this;exact Option.some.inj this
set_option maxRecDepth 100000 in
theorem Nt (t u:Tr) (w:World):(Op.equalIn 10000 39 (.agg (aC t)) (.agg (aC u))).run prog w=.ok (eqT t u) w:=by
 have a1:=Cf t;have a2:=Ce t;have a3:=Qx t;have a4:=Qw t;have b1:=Cf u;have b2:=Ce u;have b3:=Qx u;have b4:=Qw u;have c3:(Op.equalIn 9999 33 (.agg (bF t.ks)) (.agg (bF u.ks))).run prog w=_:=Ks 9996 t.ks u.ks w;have c4:(Op.equalIn 9999 37 (.agg (aU t.ro)) (.agg (aU u.ro))).run prog w=_:=Kr 9996 t.ro u.ro w;rw [run_equalIn_agg w 9999 39 _ _ (by kernel_rfl) (by kernel_rfl)];unfold eqT;generalize aC t=ct at *;generalize aC u=cu at *;generalize bF t.ks=k1 at *;generalize bF u.ks=k2 at *;generalize aU t.ro=r1 at *;generalize aU u.ro=r2 at *;by_cases h1:t.ep=u.ep <;> by_cases h2:t.fr=u.fr <;> cases h3:Zo t.ks u.ks <;> cases h4:Zn t.ro u.ro <;> simp [go_sem,a1,a2,a3,a4,b1,b2,b3,b4,c3,c4,h1,h2,h3,h4]
open Go.RowKit Go.Great
open Rt (Ky zK bF)
open Rs (En zE aU)
variable {t u:Tr} {w:World} {B:Nat}
def tz (n:Int):Tr:=⟨0,n,fun _=>zK,fun _=>zE⟩
def j6:Tr:=⟨0,22,fun v=>⟨(v:Int)+1,0⟩,fun _=>zE⟩
/- While the keys are laid: j of them are there. -/
def Mb (j:Nat):Tr:=⟨0,22,fun v=>if v<j then ⟨(v:Int)+1,0⟩ else zK,fun _=>zE⟩
theorem yA (h1:t.ep=u.ep) (h2:t.fr=u.fr) (h3:bF t.ks=bF u.ks) (h4:aU t.ro=aU u.ro):aC t=aC u:=by unfold aC;rw [h1,h2,h3,h4]
theorem Ck:aC (Mb 0)=aC (tz 22):=by
 refine yA rfl rfl (Rt.oh fun i _=>?_) rfl;show (if i<0 then (⟨(i:Int)+1,0⟩:Ky) else zK)=zK
 exact if_neg (by omega)
theorem Hx:aC (Mb 21)=aC j6:=by
 refine yA rfl rfl (Rt.oh fun i hi=>?_) rfl;show (if i<21 then (⟨(i:Int)+1,0⟩:Ky) else zK)=⟨(i:Int)+1,0⟩
 exact if_pos hi
theorem Cl (j:Nat):Mb (j+1)={Mb j with ks:=Rt.EA (Mb j).ks j ⟨(j:Int)+1,0⟩}:=by
 unfold Mb
 congr 1
 funext v
 show (if v<j+1 then (⟨(v:Int)+1,0⟩:Ky) else zK)=if v=j then ⟨(j:Int)+1,0⟩ else (if v<j then ⟨(v:Int)+1,0⟩ else zK)
 by_cases h:v=j
 ·subst h;rw [if_pos (by omega),if_pos rfl]
 ·rw [if_neg h];by_cases c:v<j
  ·rw [if_pos (by omega),if_pos c]
  ·rw [if_neg (by omega),if_neg c]
theorem S7 (t:Tr) (k:Nat) (hk:k<21) (a b:Int):((aC t).setIfInBounds (2+k * 2) (.int .i64 a)).setIfInBounds (2+k * 2+1) (.int .i64 b)=aC {t with ks:=Rt.EA t.ks k ⟨a,b⟩}:=by
 apply Array.ext_getElem?
 intro i;rw [Array.getElem?_setIfInBounds,Array.getElem?_setIfInBounds];rcases Nat.lt_or_ge i 2 with h | h
 ·rw [if_neg (by omega),if_neg (by omega)];have:i=0∨i=1:=by omega
  rcases this with rfl | rfl
  ·rw [Cf,Cf]
  ·rw [Ce,Ce]
 ·rcases Nat.lt_or_ge i 44 with h2 | h2
  ·obtain ⟨j,rfl⟩:∃j,i=2+j:=⟨i - 2,by omega⟩;rw [rM _ j (by omega),rM _ j (by omega)];have h3:=congrArg (·[j]?) (Rt.IB t.ks k ⟨a,b⟩ hk);simp only [Array.getElem?_setIfInBounds,Array.size_setIfInBounds,Rt.bH] at h3;rw [←h3];simp only [Array.size_setIfInBounds,aZ];by_cases c1:k * 2+1=j
   ·rw [if_pos (by omega),if_pos (by omega),if_pos c1,if_pos (by omega)]
   ·rw [if_neg (by omega),if_neg c1];by_cases c0:k * 2=j
    ·rw [if_pos (by omega),if_pos (by omega),if_pos c0,if_pos (by omega)]
    ·rw [if_neg (by omega),if_neg c0]
  ·obtain ⟨j,rfl⟩:∃j,i=44+j:=⟨i - 44,by omega⟩;rw [if_neg (by omega),if_neg (by omega),oZ,oZ]
theorem az.Ng (h:az w B t) (k:Nat) (hk:k<21) (a b:Int):
  az ((w.setCell ⟨B,2+k * 2,none⟩ (.int .i64 a)).setCell ⟨B,2+k * 2+1,none⟩ (.int .i64 b)) B {t with ks:=Rt.EA t.ks k ⟨a,b⟩}:=by
 have h3:=Rt.aO (Rt.aO h (2+k * 2) (.int .i64 a)) (2+k * 2+1) (.int .i64 b);rw [S7 t k hk a b] at h3;exact h3
theorem az.congr (h:az w B t) (e:aC t=aC u):az w B u:=by unfold az at *;rw [←e];exact h
theorem az.row (h:az w B t) (u:Tr):az (w.setRow B (aC u)) B u:=Rt.ai h _
theorem M8 {ops:Array Oper} {rest:List Oper} {o:Oper} {a:Act} {Q:Exit→Act→World→Prop} (h:az w B t) (hgd:o.guard=none) (x y:Operand) (ho:o.op=.store 39 x y)
  (hx:a.eval x=.pointer (some ⟨B,0,none⟩)) (hy:a.eval y=.agg (aC u)) (k:wpList prog ops Q rest (a.put o.dst undef) (w.setRow B (aC u))):wpList prog ops Q (o::rest) a w:=
 wpList_store_row hgd 39 x y ho B (aC u) hx hy 39 (aC t) h (by rw [aZ];exact jz) (by rw [aZ,aZ]) (j5 u) k
theorem o_ {fn:Func} {p:Tmp} (hf:fn.results=#[.cell p 39]) (tmps:Array Value) (W:World) (B:Nat) (t:Tr) (hp:tmps[p]? =some (.pointer (some ⟨B,0,none⟩))) (hb:az W B t):
  (results fn tmps).run prog W=.ok (.agg (aC t)) W:=by
 have h:=run_loadVar_row W B _ 39 _ _ _ hb underlying39 rfl (by rw [aZ];exact jz);simp [results,hf,hp,asAddr,h]
theorem fu:zeroCells39=aC (tz 0):=by kernel_rfl
theorem Re:prog.built 39 [(1,.int .i64 22)]=some (aC (tz 22)):=by kernel_rfl
theorem zw (a:Act):prog.built 39 ((#[(1,Operand.const (.int .i64 22))]:Array (Nat×Operand)).map fun (i,x)=>(i,a.eval x)).toList=some (aC (tz 22)):=by
 rw [show ((#[(1,Operand.const (.int .i64 22))]:Array (Nat×Operand)).map fun (i,x)=>(i,a.eval x)).toList=[(1,Value.int .i64 22)] by simp [Act.eval]];exact Re
theorem az.zero (w:World):az (w.alloc (.cells zeroCells39 39)) w.heap.size (tz 0):=by rw [fu];exact az.new w _
/- What stands when the keys are to be laid. -/
theorem Cj (w:World):∃W,((w.alloc (.cells zeroCells39 39)).alloc (.cells zeroCells39 39)).setRow (w.heap.size+1) (aC (tz 22))=W∧az W w.heap.size (tz 0)∧az W (w.heap.size+1) (tz 22)∧Below w.heap.size w W:=by
 have h1:=az.zero w;have h2:=az.zero (w.alloc (.cells zeroCells39 39));have hb1:=aa w (.cells zeroCells39 39);have hb2:=aa (w.alloc (.cells zeroCells39 39)) (.cells zeroCells39 39);rw [World.size_alloc] at h2;have h3:=h1.later hb2;have hb:=hb1.trans (hb2.mono hb1.size);refine ⟨_,rfl,?_,h2.row _,Rt.ag (by omega) hb _⟩;exact (Rt.aq (by omega) _).trans h3
set_option maxRecDepth 100000 in
theorem Ke (w:World):Calls prog 63 #[] w fun e w'=>e=.returned (.agg (aC j6))∧Below w.heap.size w w':=by
 have hz:=az.zero (w.alloc (.cells zeroCells39 39));rw [World.size_alloc] at hz;obtain ⟨W1,hW1,hA1,Dm,cA⟩:=Cj w;go_enter func63,ntmps63;go_upto_region 1 with (fail)
 refine wp_region_lit ?_;refine wpList_buildTo rfl 39 _ rfl _ rfl (aC (tz 22)) (zw _) ?_;go_upto_region 2 with (refine M8 hz rfl _ _ rfl rfl rfl ?_)
 rw [hW1];clear hW1 hz;obtain ⟨ct,bQ⟩:∃c,aC (tz 22)=c:=⟨_,rfl⟩;rw [bQ];clear bQ;have HZ1:Hid (az W1 (w.heap.size+1) (tz 22)):=Dm;have HA1:Hid (az W1 w.heap.size (tz 0)):=hA1;have dV:Hid (Below w.heap.size w W1):=cA;clear Dm hA1 cA;go_wp2_with fail
 go_loopw [4] (fun i wx=>∃j:Nat,j≤21∧i=.int .i64 (j:Int)∧az wx w.heap.size (tz 0)∧az wx (w.heap.size+1) (Mb j)∧Below w.heap.size w wx) (fun i _=>21 - (intOf i).toNat)
 case atStart=>exact ⟨0,by omega,rfl,HA1.out,HZ1.out.congr Ck.symm,dV.out⟩
 case round=>
  obtain ⟨j,hj,rfl,hk,hz,hb⟩:=hrel;clear HZ1 HA1 dV;by_cases EC:j<21
  ·have j0:(0:Int)≤(j:Int):=by omega
   have j1:(j:Int)<21:=by omega
   obtain ⟨c0,c1⟩:=hz.key j EC;have f0:=Rt.ax hz (2+j * 2);have f1:=Rt.ax hz (2+j * 2+1);have HZ:Hid (az ((wr.setCell ⟨w.heap.size+1,2+j * 2,none⟩ (.int .i64 ((j:Int)+1))).setCell ⟨w.heap.size+1,2+j * 2+1,none⟩ (.int .i64 0)) (w.heap.size+1) (Mb (j+1))):=by rw [Cl];exact hz.Ng j EC _ _
   have HK:Hid (az ((wr.setCell ⟨w.heap.size+1,2+j * 2,none⟩ (.int .i64 ((j:Int)+1))).setCell ⟨w.heap.size+1,2+j * 2+1,none⟩ (.int .i64 0)) w.heap.size (tz 0)):=(Rt.eh (by omega) _ _ _ _).trans hk;have HB:Hid (Below w.heap.size w ((wr.setCell ⟨w.heap.size+1,2+j * 2,none⟩ (.int .i64 ((j:Int)+1))).setCell ⟨w.heap.size+1,2+j * 2+1,none⟩ (.int .i64 0))):=Rt.ei hb (by omega) _ _ _ _;generalize (Mb j).ks j=e at *;clear hk hz hb;go_wp2_with fail
   go_roundw
   case rel=>exact ⟨j+1,by omega,by go_num,HK.out,HZ.out,HB.out⟩
   case measure=>simp [intOf];omega
  ·obtain rfl:j=21:=by omega
   have hN:=hz.congr Hx;go_upto_region 7 with (fail)
   refine wp_region_lit ?_;refine pV hN rfl _ rfl rfl rfl ?_;go_wp2_with (refine M8 (u:=j6) hk rfl _ _ rfl rfl rfl ?_)
   refine bodyPost_ret (o_ (p:=0) rfl _ _ w.heap.size j6 rfl (hk.row _)) rfl ?_;exact ⟨rfl,Rt.ag (by omega) hb _⟩
set_option maxRecDepth 100000 in
theorem vD (w:World):Calls prog 7 #[] w fun e w'=>e=.returned (.agg (aC j6))∧Below w.heap.size w w':=by
 have hz:=az.zero (w.alloc (.cells zeroCells39 39));rw [World.size_alloc] at hz;obtain ⟨W1,hW1,hA1,Dm,cA⟩:=Cj w;go_enter func7,ntmps7;go_upto_region 1 with (fail)
 refine wp_region_lit ?_;refine wpList_buildTo rfl 39 _ rfl _ rfl (aC (tz 22)) (zw _) ?_;go_upto_region 2 with (refine M8 hz rfl _ _ rfl rfl rfl ?_)
 rw [hW1];clear hW1 hz;obtain ⟨ct,bQ⟩:∃c,aC (tz 22)=c:=⟨_,rfl⟩;rw [bQ];clear bQ;have HZ1:Hid (az W1 (w.heap.size+1) (tz 22)):=Dm;have HA1:Hid (az W1 w.heap.size (tz 0)):=hA1;have dV:Hid (Below w.heap.size w W1):=cA;clear Dm hA1 cA;go_wp2_with fail
 go_loopw [2] (fun i wx=>∃j:Nat,j≤21∧i=.int .i64 (j:Int)∧az wx w.heap.size (tz 0)∧az wx (w.heap.size+1) (Mb j)∧Below w.heap.size w wx) (fun i _=>21 - (intOf i).toNat)
 case atStart=>exact ⟨0,by omega,rfl,HA1.out,HZ1.out.congr Ck.symm,dV.out⟩
 case round=>
  obtain ⟨j,hj,rfl,hk,hz,hb⟩:=hrel;clear HZ1 HA1 dV;by_cases EC:j<21
  ·have j0:(0:Int)≤(j:Int):=by omega
   have j1:(j:Int)<21:=by omega
   obtain ⟨c0,c1⟩:=hz.key j EC;have f0:=Rt.ax hz (2+j * 2);have f1:=Rt.ax hz (2+j * 2+1);have HZ:Hid (az ((wr.setCell ⟨w.heap.size+1,2+j * 2,none⟩ (.int .i64 ((j:Int)+1))).setCell ⟨w.heap.size+1,2+j * 2+1,none⟩ (.int .i64 0)) (w.heap.size+1) (Mb (j+1))):=by rw [Cl];exact hz.Ng j EC _ _
   have HK:Hid (az ((wr.setCell ⟨w.heap.size+1,2+j * 2,none⟩ (.int .i64 ((j:Int)+1))).setCell ⟨w.heap.size+1,2+j * 2+1,none⟩ (.int .i64 0)) w.heap.size (tz 0)):=(Rt.eh (by omega) _ _ _ _).trans hk;have HB:Hid (Below w.heap.size w ((wr.setCell ⟨w.heap.size+1,2+j * 2,none⟩ (.int .i64 ((j:Int)+1))).setCell ⟨w.heap.size+1,2+j * 2+1,none⟩ (.int .i64 0))):=Rt.ei hb (by omega) _ _ _ _;generalize (Mb j).ks j=e at *;clear hk hz hb;go_wp2_with fail
   go_roundw
   case rel=>exact ⟨j+1,by omega,by go_num,HK.out,HZ.out,HB.out⟩
   case measure=>simp [intOf];omega
  ·obtain rfl:j=21:=by omega
   have hN:=hz.congr Hx;go_upto_region 6 with (fail)
   refine wp_region_lit ?_;refine pV hN rfl _ rfl rfl rfl ?_;go_wp2_with (refine M8 (u:=j6) hk rfl _ _ rfl rfl rfl ?_)
   refine bodyPost_ret (o_ (p:=0) rfl _ _ w.heap.size j6 rfl (hk.row _)) rfl ?_;exact ⟨rfl,Rt.ag (by omega) hb _⟩
open Rt (Ky zK bF bq cK)
open Rs (En zE aU bg jW)
variable {t:Tr} {k:Nat} {e:En}
set_option maxRecDepth 100000 in
theorem x_ (f:Nat→Ky) (x:Int) (w:World):Calls prog 241 #[.agg (bF f),.int .i64 x] w fun r w'=>r=.returned (.bool (Pb f x))∧Below w.heap.size w w':=by
 have hn:=bq.new w f;have cA:=Rt.jK w f;go_enter func241,ntmps241;go_upto_region 1 with (fail)
 generalize w.alloc (.cells (bF f) 33)=w1 at *;refine wp_region_lit ?_;refine Rt.Yu hn rfl _ rfl rfl ?_;obtain ⟨c,hc⟩:∃c,bF f=c:=⟨_,rfl⟩;rw [hc];go_wp2_with fail
 go_loopw [8] (fun i wx=>∃k:Nat,k≤21∧i=.int .i64 (k:Int)∧Below w1.heap.size w1 wx∧∀j,j<k→decide ((f j).aB=x)=false) (fun i _=>21 - (intOf i).toNat)
 case atStart=>exact ⟨0,by omega,rfl,Below.refl _ _,fun j hj=>by omega⟩
 case round=>
  obtain ⟨k,hk,rfl,hb,hf⟩:=hrel;have HB:Hid (Below w.heap.size w wr):=cA.trans (hb.mono cA.size);have fE:Hid (Below w1.heap.size w1 wr):=hb;have HF:Hid (∀j,j<k→decide ((f j).aB=x)=false):=hf;clear hb hf;by_cases dA:k<21
  ·have k8:(k:Int)<21:=by omega
   have hi:=Rt.YE f k dA;rw [hc] at hi;have rC:Hid (Below wr.heap.size wr (wr.alloc (.cells #[.int .i64 (f k).aB,.int .i64 (f k).bp] 31))):=Rt.lh wr (f k);obtain ⟨e,he⟩:∃e,f k=e:=⟨_,rfl⟩;rw [he] at hi rC;have HE:Hid (f k=e):=he;clear he hc;by_cases hx:e.aB=x
   ·have hx2:(e.aB==x)=true:=by simp [hx]
    have HX:Hid (e.aB=x):=hx;clear hx;go_wp2_with fail
    go_ret;exact ⟨ae (by unfold Pb;rw [q9 dA (by rw [HE.out,HX.out];simp)]),HB.out.trans (rC.out.mono HB.out.size)⟩
   ·have hx2:(e.aB==x)=false:=by simp [hx]
    go_wp2_with fail
    go_roundw
    case rel=>
     refine ⟨k+1,by omega,by go_num,fE.out.trans (rC.out.mono fE.out.size),fun j hj=>?_⟩;rcases Nat.lt_or_ge j k with h | h
     ·exact HF.out j h
     ·obtain rfl:j=k:=by omega
      rw [HE.out];exact decide_eq_false hx
    case measure=>simp [intOf];omega
  ·obtain rfl:k=21:=by omega
   go_wp2_with fail
   go_ret;exact ⟨ae (by unfold Pb;rw [Bv HF.out]),HB.out⟩
theorem Jg {e:Ky} (he:t.ks k=e) (h:t.fr≤e.aB):DB t k=false:=by unfold DB;rw [he,decide_eq_false (by omega)];rfl
theorem Jf {e:Ky} (he:t.ks k=e) (h:t.ep<e.bp):DB t k=false:=by unfold DB;rw [he,decide_eq_false (p:=e.bp≤t.ep) (by omega),Bool.and_false]
theorem Je {e:Ky} (he:t.ks k=e) (h1:¬t.fr≤e.aB) (h2:¬t.ep<e.bp):DB t k=true:=by unfold DB;rw [he,decide_eq_true (by omega),decide_eq_true (by omega)];rfl
set_option maxRecDepth 100000 in
theorem C5 (t:Tr) (w:World):Calls prog 187 #[.agg (aC t)] w fun r w'=>r=.returned (.bool (sH t))∧Below w.heap.size w w':=by
 have hn:=az.new w t;have cA:=cG w t;obtain ⟨c,hc⟩:∃c,bF t.ks=c:=⟨_,rfl⟩;have HC:Hid (bF t.ks=c):=hc;clear hc;go_enter func187,ntmps187;go_upto_region 1 with (fail)
 generalize w.alloc (.cells (aC t) 39)=w1 at *;obtain ⟨B,uj⟩:∃B,w.heap.size=B:=⟨_,rfl⟩;rw [uj] at hn ⊢;obtain ⟨ct,bQ⟩:∃ct,aC t=ct:=⟨_,rfl⟩;rw [bQ];clear bQ;have VB:Hid (w.heap.size=B):=uj;clear uj;go_wp2_with (refine rdK hn HC.out _ rfl rfl rfl ?_)
 go_loopw [7] (fun i wx=>∃k:Nat,k≤21∧i=.int .i64 (k:Int)∧Below w1.heap.size w1 wx∧∀j,j<k→DB t j=true) (fun i _=>21 - (intOf i).toNat)
 case atStart=>exact ⟨0,by omega,rfl,Below.refl _ _,fun j hj=>by omega⟩
 case round=>
  obtain ⟨k,hk,rfl,hb,hf⟩:=hrel;have HB:Hid (Below w.heap.size w wr):=cA.trans (hb.mono cA.size);have fE:Hid (Below w1.heap.size w1 wr):=hb;have HF:Hid (∀j,j<k→DB t j=true):=hf;by_cases dA:k<21
  ·have k8:(k:Int)<21:=by omega
   have hi:=Rt.YE t.ks k dA;simp only [HC.out] at hi;obtain ⟨c0,c1⟩:=(hn.later hb).cells;have d0:=fun o=>bz c0 o
   have d1:=fun o=>bz c1 o
   have rC:Hid (Below wr.heap.size wr (wr.alloc (.cells #[.int .i64 (t.ks k).aB,.int .i64 (t.ks k).bp] 31))):=Rt.lh wr (t.ks k);obtain ⟨e,he⟩:∃e,t.ks k=e:=⟨_,rfl⟩;rw [he] at hi rC;have HE:Hid (t.ks k=e):=he;clear he c0 c1 hb hf;by_cases g1:t.fr≤e.aB
   ·go_wp2_with fail
    go_ret;exact ⟨ae (by unfold sH;rw [e9 dA (Jg HE.out g1)]),HB.out.trans (rC.out.mono HB.out.size)⟩
   ·by_cases g2:t.ep<e.bp
    ·go_wp2_with fail
     go_ret;exact ⟨ae (by unfold sH;rw [e9 dA (Jf HE.out g2)]),HB.out.trans (rC.out.mono HB.out.size)⟩
    ·go_wp2_with fail
     go_roundw
     case rel=>
      refine ⟨k+1,by omega,by go_num,fE.out.trans (rC.out.mono fE.out.size),fun j hj=>?_⟩;rcases Nat.lt_or_ge j k with h | h
      ·exact HF.out j h
      ·obtain rfl:j=k:=by omega
       exact Je HE.out (by omega) (by omega)
     case measure=>simp [intOf];omega
  ·obtain rfl:k=21:=by omega
   clear hb hf;go_wp2_with fail
   go_ret;exact ⟨ae (by unfold sH;rw [gm HF.out]),HB.out⟩
theorem I7 (he:t.ro k=e) (h:t.fr≤e.aB):Gu t k=false:=by unfold Gu;rw [he,decide_eq_false (by omega)];rfl
theorem I6 (he:t.ro k=e) (h:t.ep<e.dx):Gu t k=false:=by unfold Gu;rw [he,decide_eq_false (p:=e.dx≤t.ep) (by omega),Bool.false_and,Bool.and_false]
theorem I5 (he:t.ro k=e) (h:Pb t.ks e.aB=true):Gu t k=false:=by unfold Gu;rw [he,h,Bool.not_true,Bool.and_false,Bool.and_false]
theorem I4 (he:t.ro k=e) (h1:¬t.fr≤e.aB) (h2:¬t.ep<e.dx) (h3:Pb t.ks e.aB=false):Gu t k=true:=by unfold Gu;rw [he,h3,decide_eq_true (by omega),decide_eq_true (by omega)];rfl
set_option maxRecDepth 100000 in
theorem zX (t:Tr) (w:World):Calls prog 188 #[.agg (aC t)] w fun r w'=>r=.returned (.bool (qQ t))∧Below w.heap.size w w':=by
 have hn:=az.new w t;have cA:=cG w t;have II:=fun x=>x_ t.ks x
 obtain ⟨c,hc⟩:∃c,aU t.ro=c:=⟨_,rfl⟩;have HC:Hid (aU t.ro=c):=hc;clear hc;obtain ⟨ck,dH⟩:∃c,bF t.ks=c:=⟨_,rfl⟩;simp only [dH] at II;have HK:Hid (bF t.ks=ck):=dH;clear dH;go_enter func188,ntmps188;go_upto_region 1 with (fail)
 generalize w.alloc (.cells (aC t) 39)=w1 at *;obtain ⟨B,uj⟩:∃B,w.heap.size=B:=⟨_,rfl⟩;rw [uj] at hn ⊢;obtain ⟨ct,bQ⟩:∃ct,aC t=ct:=⟨_,rfl⟩;rw [bQ];clear bQ;have VB:Hid (w.heap.size=B):=uj;clear uj;go_wp2_with (refine ND hn HC.out _ rfl rfl rfl ?_)
 go_loopw [7] (fun i wx=>∃k:Nat,k≤64∧i=.int .i64 (k:Int)∧Below w1.heap.size w1 wx∧∀j,j<k→Gu t j=true) (fun i _=>64 - (intOf i).toNat)
 case atStart=>exact ⟨0,by omega,rfl,Below.refl _ _,fun j hj=>by omega⟩
 case round=>
  obtain ⟨k,hk,rfl,hb,hf⟩:=hrel;have HB:Hid (Below w.heap.size w wr):=cA.trans (hb.mono cA.size);have fE:Hid (Below w1.heap.size w1 wr):=hb;have HF:Hid (∀j,j<k→Gu t j=true):=hf;by_cases dA:k<64
  ·have k8:(k:Int)<64:=by omega
   have hi:=Rs.Db t.ro k dA;simp only [HC.out] at hi;have hT:=hn.later hb;obtain ⟨c0,c1⟩:=hT.cells;have d0:=fun o=>bz c0 o
   have d1:=fun o=>bz c1 o
   have ui:=Rs.fo wr (t.ro k);obtain ⟨e,he⟩:∃e,t.ro k=e:=⟨_,rfl⟩;rw [he] at hi ui;have hTE:=hT.later ui;have rC:Hid (Below wr.heap.size wr (wr.alloc (.cells #[.int .i64 e.who,.int .i64 e.aB,.int .i64 e.dx] 35))):=ui;have HE:Hid (t.ro k=e):=he;clear he c0 c1 hb hf hT ui;by_cases g1:t.fr≤e.aB
   ·clear hTE;go_wp2_with fail
    go_ret;exact ⟨ae (by unfold qQ;rw [e9 dA (I7 HE.out g1)]),HB.out.trans (rC.out.mono HB.out.size)⟩
   ·by_cases g2:t.ep<e.dx
    ·clear hTE;go_wp2_with fail
     go_ret;exact ⟨ae (by unfold qQ;rw [e9 dA (I6 HE.out g2)]),HB.out.trans (rC.out.mono HB.out.size)⟩
    ·go_wp2_with (refine rdK hTE HK.out _ rfl rfl rfl ?_)
     refine (II e.aB _).mono ?_;rintro r w3 ⟨rfl,hb3⟩;have R7:Hid (Below wr.heap.size wr w3):=rC.out.trans (hb3.mono rC.out.size);clear hTE hb3 d0 d1 hi
     cases h3:Pb t.ks e.aB with
     | true=>
      go_wp2_with fail
      go_ret;exact ⟨ae (by unfold qQ;rw [e9 dA (I5 HE.out h3)]),HB.out.trans (R7.out.mono HB.out.size)⟩
     | false=>
      go_wp2_with fail
      go_roundw
      case rel=>
       refine ⟨k+1,by omega,by go_num,fE.out.trans (R7.out.mono fE.out.size),fun j hj=>?_⟩;rcases Nat.lt_or_ge j k with h | h
       ·exact HF.out j h
       ·obtain rfl:j=k:=by omega
        exact I4 HE.out (by omega) (by omega) h3
      case measure=>simp [intOf];omega
  ·obtain rfl:k=64:=by omega
   clear hb hf;go_wp2_with fail
   go_ret;exact ⟨ae (by unfold qQ;rw [gm HF.out]),HB.out⟩
end Go.Proofs.YtanaapfobpgibaaGreatDoor
