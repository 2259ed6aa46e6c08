/- TrMath, TrA, TrS, TrB, joined. -/
import Derived.Test.YtoimkngkcliinaaGreatDoorJRtMath
import Derived.Test.YtoimkngkcliinaaGreatDoorJRsMath
import Derived.Test.YtoimkngkcliinaaGreatDoorJShpMath
import Derived.Great.BuildSlice
import Derived.Deep.DeepCutAuto
import Derived.BigQuiet
namespace Go.Proofs.YtoimkngkcliinaaGreatDoor
open Rt (Ky zK kcs kchk kchkE lfE lfB lfS lfR gd Gd)
open Rs (En zE rcs chk chkE tkn tk fnd)
open Sh (belB msk hitTo hasB)
set_option linter.unusedVariables false
set_option maxRecDepth 4000
set_option linter.unusedSimpArgs false
theorem ret_int {k:IntKind} {a b:Int} (h:a=b):Ending.returned (.int k a)=.returned (.int k b):=by rw [h]
theorem ret_bool {a b:Bool} (h:a=b):Ending.returned (.bool a)=.returned (.bool b):=by rw [h]
structure Tr where
 ep:Int
 fr:Int
 ks:Nat→Ky
 ro:Nat→En
def tcs (t:Tr):Array Value:=#[.int .i64 t.ep,.int .i64 t.fr]++(kcs t.ks++rcs t.ro)
@[simp] theorem tcs_size (t:Tr):(tcs t).size=236:=by simp [tcs]
theorem tcs_0 (t:Tr):(tcs t)[0]? =some (.int .i64 t.ep):=by
 unfold tcs;rw [Array.getElem?_append_left (by simp)];rfl
theorem tcs_1 (t:Tr):(tcs t)[1]? =some (.int .i64 t.fr):=by
 unfold tcs;rw [Array.getElem?_append_left (by simp)];rfl
theorem tcs_ks (t:Tr) (j:Nat) (h:j<42):(tcs t)[2+j]? =(kcs t.ks)[j]? :=by
 unfold tcs;rw [Array.getElem?_append_right (by simp)];simp only [List.size_toArray,List.length_cons,List.length_nil,Nat.zero_add,Nat.reduceAdd,Nat.add_sub_cancel_left];rw [Array.getElem?_append_left (by simpa using h)]
theorem tcs_ro (t:Tr) (j:Nat):(tcs t)[44+j]? =(rcs t.ro)[j]? :=by
 have e:44+j - (#[Value.int .i64 t.ep,.int .i64 t.fr]:Array Value).size - (kcs t.ks).size=j:=by
  rw [Rt.kcs_size];show 44+j - 2 - 42=j
  omega
 unfold tcs;rw [Array.getElem?_append_right (by simp;omega),Array.getElem?_append_right (by rw [Rt.kcs_size];show 42≤44+j - 2;omega),e]
theorem tcs_one (t:Tr):(tcs t).all (·.oneCell')=true:=by
 unfold tcs;rw [Array.all_append,Array.all_append,Rt.kcs_one,Rs.rcs_one];simp [Value.oneCell']
/- Names and steps against Fresh and Epoch. -/
def fk1 (t:Tr) (v:Nat):Bool:=decide ((t.ks v).bas<t.fr)&&decide ((t.ks v).stp≤t.ep)
def fitK (t:Tr):Bool:=(List.range 21).all (fk1 t)
def isn (k:Nat→Ky) (x:Int):Bool:=(List.range 21).any fun v=>decide ((k v).bas=x)
def fs1 (t:Tr) (s:Nat):Bool:=decide ((t.ro s).bas<t.fr)&&(decide ((t.ro s).snc≤t.ep)&& !isn t.ks (t.ro s).bas)
def fitS (t:Tr):Bool:=(List.range 64).all (fs1 t)
def bnd (t:Tr):Bool:=decide (0≤t.ep)&&(decide (t.ep≤200)&&(decide (22≤t.fr)&&decide (t.fr≤32768)))
def tck (t:Tr):Bool:=bnd t&&(kchk t.ks&&(chk t.ro&&(fitK t&&fitS t)))
def tckE (t:Tr):Int:=if tck t then 0 else 31
theorem tckE_tt {t:Tr} (h:tck t=true):tckE t=0:=by unfold tckE;rw [h];rfl
theorem tckE_ff {t:Tr} (h:tck t=false):tckE t=31:=by unfold tckE;rw [h];rfl
theorem all_yes {n:Nat} {p:Nat→Bool} (h:∀j,j<n→p j=true):(List.range n).all p=true:=by
 rw [List.all_eq_true];exact fun x hx=>h x (List.mem_range.1 hx)
theorem all_at {n:Nat} {p:Nat→Bool} (h:(List.range n).all p=true) {k:Nat} (hk:k<n):p k=true:=by
 rw [List.all_eq_true] at h;exact h k (List.mem_range.2 hk)
theorem all_no {n:Nat} {p:Nat→Bool} {k:Nat} (hk:k<n) (h:p k=false):(List.range n).all p=false:=by
 rw [Bool.eq_false_iff];intro hc;rw [all_at hc hk] at h;cases h
theorem any_yes {n:Nat} {p:Nat→Bool} {k:Nat} (hk:k<n) (h:p k=true):(List.range n).any p=true:=by
 rw [List.any_eq_true];exact ⟨k,List.mem_range.2 hk,h⟩
theorem any_no {n:Nat} {p:Nat→Bool} (h:∀j,j<n→p j=false):(List.range n).any p=false:=by
 rw [Bool.eq_false_iff];intro hc;rw [List.any_eq_true] at hc;obtain ⟨i,hi,h2⟩:=hc;rw [h i (List.mem_range.1 hi)] at h2;cases h2
theorem any_at {n:Nat} {p:Nat→Bool} (h:(List.range n).any p=false) {k:Nat} (hk:k<n):p k=false:=by
 rw [Bool.eq_false_iff];intro hc;rw [any_yes hk hc] at h;cases h
/- What a right tree has. -/
structure Right (t:Tr):Prop where
 e0:0≤t.ep
 e1:t.ep≤200
 f0:22≤t.fr
 f1:t.fr≤32768
 ks:kchk t.ks=true
 ro:chk t.ro=true
 fk:∀v,v<21→(t.ks v).bas<t.fr∧(t.ks v).stp≤t.ep
 fs:∀s,s<64→(t.ro s).bas<t.fr∧(t.ro s).snc≤t.ep∧∀v,v<21→(t.ks v).bas≠(t.ro s).bas
theorem tck_right {t:Tr} (h:tck t=true):Right t:=by
 unfold tck at h;rw [Bool.and_eq_true,Bool.and_eq_true,Bool.and_eq_true,Bool.and_eq_true] at h;obtain ⟨h1,h2,h3,h4,h5⟩:=h;unfold bnd at h1;rw [Bool.and_eq_true,Bool.and_eq_true,Bool.and_eq_true] at h1;obtain ⟨a,b,c,d⟩:=h1;refine ⟨of_decide_eq_true a,of_decide_eq_true b,of_decide_eq_true c,of_decide_eq_true d,h2,h3,fun v hv=>?_,fun s hs=>?_⟩
 ·have:=all_at h4 hv;unfold fk1 at this;rw [Bool.and_eq_true] at this;exact ⟨of_decide_eq_true this.1,of_decide_eq_true this.2⟩
 ·have:=all_at h5 hs;unfold fs1 at this;rw [Bool.and_eq_true,Bool.and_eq_true] at this;obtain ⟨x,y,z⟩:=this;refine ⟨of_decide_eq_true x,of_decide_eq_true y,fun v hv=>?_⟩;have z':isn t.ks (t.ro s).bas=false:=by simpa using z
  exact of_decide_eq_false (any_at z' hv)
theorem Right.ent {t:Tr} (h:Right t) {s:Nat} (hs:s<64):Rs.rgp (t.ro s)=true:=by
 have:=Rs.chk_at h.ro hs;unfold Rs.okp at this;rw [Bool.and_eq_true] at this;exact this.1
theorem Right.taken {t:Tr} (h:Right t) {s:Nat} (hs:s<64) (ht:tkn (t.ro s)=true):1≤(t.ro s).bas∧(t.ro s).bas<32768∧1≤(t.ro s).snc∧(t.ro s).snc≤200∧0≤(t.ro s).who∧(t.ro s).who<256:=by
 have:=h.ent hs;unfold Rs.rgp at this;rw [ht,if_pos rfl] at this;simp [Rs.rgt,Rs.wok,Rs.eok] at this;omega
/- An entry's leaf key in a right tree. -/
theorem Right.leaf {t:Tr} (h:Right t) {s:Nat} (hs:s<64) (ht:tkn (t.ro s)=true):lfE (t.ro s).bas (t.ro s).snc t.ep=0:=by
 obtain ⟨a,b,c,d,_,_⟩:=h.taken hs ht;have:=(h.fs s hs).2.1;have:=h.e1;exact Rt.lfE_ok (by omega) (Rt.lfR_ok a b c d) (by omega) (by omega)
theorem leaf_free {t:Tr} {s:Nat} (ht:tkn (t.ro s)=false):lfE (t.ro s).bas (t.ro s).snc t.ep=16:=by
 have hb:(t.ro s).bas=0:=by simpa [tkn] using ht
 rw [hb];exact Rt.lfE_off
/- The key of a node. -/
def nod (v:Int):Bool:=decide (0≤v)&&decide (v<85)
def koE (t:Tr) (v:Int):Int:=if tck t then (if nod v then (if v<21 then 0 else lfE (t.ro (v - 21).toNat).bas (t.ro (v - 21).toNat).snc t.ep) else 2) else 31
def koK (t:Tr) (v:Int):Ky:=if koE t v=0 then (if v<21 then t.ks v.toNat else ⟨(t.ro (v - 21).toNat).bas,t.ep - (t.ro (v - 21).toNat).snc⟩) else zK
theorem koE_inner {t:Tr} {v:Int} (h:tck t=true) (h0:0≤v) (h1:v<21):koE t v=0:=by
 unfold koE;rw [h,if_pos rfl,show nod v=true by simp [nod];omega,if_pos rfl,if_pos h1]
theorem koE_leaf {t:Tr} {s:Nat} (h:tck t=true) (hs:s<64):koE t (21+(s:Int))=lfE (t.ro s).bas (t.ro s).snc t.ep:=by
 unfold koE;rw [h,if_pos rfl,show nod (21+(s:Int))=true by simp [nod];omega,if_pos rfl,if_neg (by omega),show (21+(s:Int) - 21).toNat=s by omega]
/- A slot's path. -/
def pn (s i:Nat):Nat:=if i=0 then 5+s/4 else if i=1 then 1+s/16 else 0
theorem pn_lt {s:Nat} (hs:s<64) (i:Nat):pn s i<21:=by
 unfold pn;split
 ·omega
 ·split <;> omega
/- Held nodes. -/
def hld (r:Nat→En) (v:Int):Bool:=(List.range 64).any fun s=>tkn (r s)&&belB v (21+(s:Int))
theorem tkn_has (r:Nat→En) {s:Nat} (hs:s<64):hasB ((tk r:Nat):Int) s=tkn (r s):=by rw [Sh.hasB_bit,Rs.tk_bit r hs]
theorem hit_hld (r:Nat→En) (v:Int):hitTo ((tk r:Nat):Int) v 64=hld r v:=by
 rw [Bool.eq_iff_iff,Sh.hitTo_iff];unfold hld;rw [List.any_eq_true];constructor
 ·rintro ⟨s,hs,h1,h2⟩;exact ⟨s,List.mem_range.2 hs,by rw [←tkn_has r hs,h1,h2];rfl⟩
 ·rintro ⟨s,hs,h⟩;rw [Bool.and_eq_true] at h;exact ⟨s,List.mem_range.1 hs,by rw [tkn_has r (List.mem_range.1 hs)];exact h.1,h.2⟩
open Go.RowKit
open Rt (Ky zK kcs KsAt KyAt eqY eqA)
open Rs (En zE rcs RoAt EnAt eqE eqB)
set_option maxRecDepth 20000
theorem infoT:(Tryz.prog.info? 54).map (·.size)=some 236:=by kernel_rfl
def TrAt (w:World) (B:Nat) (t:Tr):Prop:=w.heap[B]? =some (.cells (tcs t) 54 (0,0))
theorem TrAt.lt {w:World} {B:Nat} {t:Tr} (h:TrAt w B t):B<w.heap.size:=(Array.getElem?_eq_some_iff.1 h).1
theorem TrAt.below {n:Nat} {w w':World} {B:Nat} {t:Tr} (h:TrAt w B t) (hb:Below n w w') (hn:B<n):TrAt w' B t:=(hb.block B hn).trans h
theorem TrAt.later {w w':World} {B:Nat} {t:Tr} (h:TrAt w B t) (hb:Below w.heap.size w w'):TrAt w' B t:=h.below hb h.lt
theorem TrAt.new (w:World) (t:Tr):TrAt (w.alloc (.cells (tcs t) 54)) w.heap.size t:=heap_alloc_last w _
theorem alloc_tr (w:World) (t:Tr):Below w.heap.size w (w.alloc (.cells (tcs t) 54)):=(Below.refl _ w).alloc (Nat.le_refl _) _
theorem below_alloc (w:World) (o:Obj):Below w.heap.size w (w.alloc o):=(Below.refl _ w).alloc (Nat.le_refl _) _
theorem drew_below (w:World):Below w.heap.size w w.drew:=⟨rfl,rfl,rfl,Nat.le_refl _,fun _ _=>rfl⟩
theorem dn_below (w:World) (n:Nat):Below w.heap.size w (w.drewN n):=⟨rfl,rfl,rfl,Nat.le_refl _,fun _ _=>rfl⟩
theorem cell_alloc_lt {w:World} {a:Addr} {v:Value} (h:w.cell? a=some v) (o:Obj):(w.alloc o).cell? a=some v:=cell_later ((Below.refl _ w).alloc (Nat.le_refl _) o) h
theorem TrAt.cells {w:World} {B:Nat} {t:Tr} (h:TrAt w B t):w.cell? ⟨B,0,none⟩=some (.int .i64 t.ep)∧w.cell? ⟨B,1,none⟩=some (.int .i64 t.fr):=
 ⟨(cell_of_row w B _ _ _ _ h).trans (tcs_0 t),(cell_of_row w B _ _ _ _ h).trans (tcs_1 t)⟩
theorem TrAt.key {w:World} {B:Nat} {t:Tr} (h:TrAt w B t) (k:Nat) (hk:k<21):w.cell? ⟨B,2+k * 2,none⟩=some (.int .i64 (t.ks k).bas)∧w.cell? ⟨B,2+k * 2+1,none⟩=some (.int .i64 (t.ks k).stp):=by
 obtain ⟨h0,h1⟩:=Rt.kcs_get t.ks k hk;exact ⟨(cell_of_row w B _ _ _ _ h).trans ((tcs_ks t _ (by omega)).trans h0),by rw [Nat.add_assoc];exact (cell_of_row w B _ _ _ _ h).trans ((tcs_ks t _ (by omega)).trans h1)⟩
theorem TrAt.ent {w:World} {B:Nat} {t:Tr} (h:TrAt w B t) (k:Nat) (hk:k<64):w.cell? ⟨B,44+k * 3,none⟩=some (.int .i64 (t.ro k).who)∧w.cell? ⟨B,44+k * 3+1,none⟩=some (.int .i64 (t.ro k).bas)∧w.cell? ⟨B,44+k * 3+2,none⟩=some (.int .i64 (t.ro k).snc):=by
 obtain ⟨h0,h1,h2⟩:=Rs.rcs_get t.ro k hk;exact ⟨(cell_of_row w B _ _ _ _ h).trans ((tcs_ro t _).trans h0),by rw [Nat.add_assoc];exact (cell_of_row w B _ _ _ _ h).trans ((tcs_ro t _).trans h1),by rw [Nat.add_assoc];exact (cell_of_row w B _ _ _ _ h).trans ((tcs_ro t _).trans h2)⟩
/- A part of a row, loaded as one value. -/
theorem part_run {w:World} {B:Nat} {cs:Array Value} {T0:TypeId} {fz:Nat×Nat} (h:w.heap[B]? =some (.cells cs T0 fz)) {T:TypeId} {d:TypeDesc} (hu:Tryz.prog.underlying T=some d)
  (hd:(match d with | .struct _ | .array _ _=>true | _=>false)=true) {n:Nat} (hi:(Tryz.prog.info? T).map (·.size)=some n) (o:Nat) {ds:Array Value} (hn:ds.size=n) (hp:∀j,j<n→cs[o+j]? =ds[j]?):
  (Instr.loadAt T (.pointer (some ⟨B,o,none⟩))).run Tryz.prog w=.ok (.agg ds) w:=by
 have hl:(loadCells ⟨B,o,none⟩ ds.toList.length).run Tryz.prog w=.ok ds.toList.toArray w:=
  run_loadCells_list (P:=Tryz.prog) w ⟨B,o,none⟩ ds.toList (fun j v hv=>by
   have hadd:(⟨B,o,none⟩:Addr).add j=⟨B,o+j,none⟩:=by unfold Addr.add;split <;> simp_all
   have hv':ds[j]? =some v:=by simpa using hv
   have hj:j<n:=by have:=(Array.getElem?_eq_some_iff.1 hv').1;omega
   rw [hadd,cell_of_row w B (o+j) _ _ _ h,hp j hj]
   exact hv')
 cases hq:Tryz.prog.info? T with
 | none=>rw [hq] at hi;simp at hi
 | some i=>
  have hs:i.size=n:=by rw [hq] at hi;simpa using hi
  have hagg:(isAgg T).run Tryz.prog w=.ok true w:=by
   unfold isAgg;rw [Sem.run_bind,run_underlying hu w];cases d <;> simp_all
  simp only [Array.length_toList,Array.toArray_toList,hn] at hl;simp only [Instr.loadAt,Instr.sureAddr,Sem.run_bind,Sem.run_pure,Result.andThen];simp only [loadVar,Sem.run_bind,hagg,sizeOf,typeInfo,hq,hs];simp [hl,Sem.run_bind,typeInfo,hq,hs]
theorem rd_guard {w:World} {ops:Array Oper} {rest:List Oper} {o:Oper} {a:Act} {Q:Exit→Act→World→Prop} {v:Value} (hw:Region.wanted o (yielded ops a.tmps)=true) (hrun:(execOp a.eval o).run Tryz.prog w=.ok (.value v) w)
  (k:wpList Tryz.prog ops Q rest (a.put o.dst v) w):wpList Tryz.prog ops Q (o::rest) a w:=by
 refine wpList_step fun K hK=>?_
 rw [if_pos hw];unfold Oper.wp;rw [hrun,Oper.upon_value];exact hK _ _ k
theorem ld_exec {w:World} {T:TypeId} {B o:Nat} {v:Value} (h:(Instr.loadAt T (.pointer (some ⟨B,o,none⟩))).run Tryz.prog w=.ok v w) {a:Act} {p:Oper} {x:Operand} (ho:p.op=.load T x) (hx:a.eval x=.pointer (some ⟨B,o,none⟩)):
  (execOp a.eval p).run Tryz.prog w=.ok (.value v) w:=by
 simp [execOp,ho,hx,h,Sem.run_bind,Result.andThen]
theorem TrAt.whole {w:World} {B:Nat} {t:Tr} (h:TrAt w B t):(Instr.loadAt 54 (.pointer (some ⟨B,0,none⟩))).run Tryz.prog w=.ok (.agg (tcs t)) w:=
 part_run h Tryz.underlying54 rfl infoT 0 (tcs_size t) fun j hj=>by rw [Nat.zero_add]
theorem TrAt.keys {w:World} {B:Nat} {t:Tr} (h:TrAt w B t):(Instr.loadAt 48 (.pointer (some ⟨B,2,none⟩))).run Tryz.prog w=.ok (.agg (kcs t.ks)) w:=
 part_run h Tryz.underlying48 rfl Rt.infoK 2 (Rt.kcs_size _) fun j hj=>tcs_ks t j hj
theorem TrAt.rost {w:World} {B:Nat} {t:Tr} (h:TrAt w B t):(Instr.loadAt 52 (.pointer (some ⟨B,44,none⟩))).run Tryz.prog w=.ok (.agg (rcs t.ro)) w:=
 part_run h Tryz.underlying52 rfl Rs.info25 44 (Rs.rcs_size _) fun j hj=>tcs_ro t j
/- The same in a walk: the value as a letter. -/
theorem rdT {w:World} {ops:Array Oper} {rest:List Oper} {o:Oper} {a:Act} {Q:Exit→Act→World→Prop} {B:Nat} {t:Tr} {c:Array Value} (h:TrAt w B t) (hc:tcs t=c) (x:Operand) (ho:o.op=.load 54 x)
  (hx:a.eval x=.pointer (some ⟨B,0,none⟩)) (hw:Region.wanted o (yielded ops a.tmps)=true) (k:wpList Tryz.prog ops Q rest (a.put o.dst (.agg c)) w):wpList Tryz.prog ops Q (o::rest) a w:=
 rd_guard hw (ld_exec (hc ▸ h.whole) ho hx) k
theorem rdK {w:World} {ops:Array Oper} {rest:List Oper} {o:Oper} {a:Act} {Q:Exit→Act→World→Prop} {B:Nat} {t:Tr} {c:Array Value} (h:TrAt w B t) (hc:kcs t.ks=c) (x:Operand) (ho:o.op=.load 48 x)
  (hx:a.eval x=.pointer (some ⟨B,2,none⟩)) (hw:Region.wanted o (yielded ops a.tmps)=true) (k:wpList Tryz.prog ops Q rest (a.put o.dst (.agg c)) w):wpList Tryz.prog ops Q (o::rest) a w:=
 rd_guard hw (ld_exec (hc ▸ h.keys) ho hx) k
theorem rdR {w:World} {ops:Array Oper} {rest:List Oper} {o:Oper} {a:Act} {Q:Exit→Act→World→Prop} {B:Nat} {t:Tr} {c:Array Value} (h:TrAt w B t) (hc:rcs t.ro=c) (x:Operand) (ho:o.op=.load 52 x)
  (hx:a.eval x=.pointer (some ⟨B,44,none⟩)) (hw:Region.wanted o (yielded ops a.tmps)=true) (k:wpList Tryz.prog ops Q rest (a.put o.dst (.agg c)) w):wpList Tryz.prog ops Q (o::rest) a w:=
 rd_guard hw (ld_exec (hc ▸ h.rost) ho hx) k
/- '==' of whole trees. -/
def eqT (t u:Tr):Bool:=decide (t.ep=u.ep)&&(decide (t.fr=u.fr)&&(eqA t.ks u.ks&&eqB t.ro u.ro))
theorem eqT_refl (t:Tr):eqT t t=true:=by unfold eqT;rw [Rt.eqA_refl,Rs.eqB_refl];simp
theorem run_eqKs' (d:Nat) (f g:Nat→Ky) (w:World):(Op.equalIn (d+3) 48 (.agg (kcs f)) (.agg (kcs g))).run Tryz.prog w=.ok (eqA f g) w:=by
 obtain ⟨i,hi⟩:=Option.isSome_iff_exists.mp Rt.info_ky;rw [run_equalIn_array w (d+2) _ _ Tryz.underlying48 hi];have h:=Rt.eqItemsK f g d w (List.range 21) fun i hi=>List.mem_range.1 hi
 rw [Rt.cells_ky];exact h
theorem run_eqRo' (d:Nat) (f g:Nat→En) (w:World):(Op.equalIn (d+3) 52 (.agg (rcs f)) (.agg (rcs g))).run Tryz.prog w=.ok (eqB f g) w:=by
 obtain ⟨i,hi⟩:=Option.isSome_iff_exists.mp Rs.info_en;rw [run_equalIn_array w (d+2) _ _ Tryz.underlying52 hi];have h:=Rs.eqItems25 f g d w (List.range 64) fun i hi=>List.mem_range.1 hi
 rw [Rs.cells_en];exact h
theorem ext_ks (t:Tr):(tcs t).extract 2 44=kcs t.ks:=by
 apply Array.ext
 ·simp
 ·intro i h1 h2;have hi:i<42:=by simpa using h2
  rw [Array.getElem_extract];have:=tcs_ks t i hi;rw [Array.getElem?_eq_getElem (by simp;omega),Array.getElem?_eq_getElem (by simpa using hi)] at this;exact Option.some.inj this
theorem ext_ro (t:Tr):(tcs t).extract 44 236=rcs t.ro:=by
 apply Array.ext
 ·simp
 ·intro i h1 h2;have hi:i<192:=by simpa using h2
  rw [Array.getElem_extract];have:=tcs_ro t i;rw [Array.getElem?_eq_getElem (by simp;omega),Array.getElem?_eq_getElem (by simpa using hi)] at this;exact Option.some.inj this
set_option maxRecDepth 100000 in
theorem run_eqTr (t u:Tr) (w:World):(Op.equalIn 10000 54 (.agg (tcs t)) (.agg (tcs u))).run Tryz.prog w=.ok (eqT t u) w:=by
 have a1:=tcs_0 t;have a2:=tcs_1 t;have a3:=ext_ks t;have a4:=ext_ro t;have b1:=tcs_0 u;have b2:=tcs_1 u;have b3:=ext_ks u;have b4:=ext_ro u;have c3:(Op.equalIn 9999 48 (.agg (kcs t.ks)) (.agg (kcs u.ks))).run Tryz.prog w=_:=run_eqKs' 9996 t.ks u.ks w;have c4:(Op.equalIn 9999 52 (.agg (rcs t.ro)) (.agg (rcs u.ro))).run Tryz.prog w=_:=run_eqRo' 9996 t.ro u.ro w;rw [run_equalIn_agg w 9999 54 _ _ (by kernel_rfl) (by kernel_rfl)];unfold eqT;generalize tcs t=ct at *;generalize tcs u=cu at *;generalize kcs t.ks=k1 at *;generalize kcs u.ks=k2 at *;generalize rcs t.ro=r1 at *;generalize rcs u.ro=r2 at *;by_cases h1:t.ep=u.ep <;> by_cases h2:t.fr=u.fr <;> cases h3:eqA t.ks u.ks <;> cases h4:eqB t.ro u.ro <;> simp [go_sem,a1,a2,a3,a4,b1,b2,b3,b4,c3,c4,h1,h2,h3,h4]
open Go.RowKit Go.Great
open Rt (Ky zK kcs)
open Rs (En zE rcs)
def tz (n:Int):Tr:=⟨0,n,fun _=>zK,fun _=>zE⟩
def stT:Tr:=⟨0,22,fun v=>⟨(v:Int)+1,0⟩,fun _=>zE⟩
/- While the keys are laid: j of them are there. -/
def stS (j:Nat):Tr:=⟨0,22,fun v=>if v<j then ⟨(v:Int)+1,0⟩ else zK,fun _=>zE⟩
theorem tcs_congr {t u:Tr} (h1:t.ep=u.ep) (h2:t.fr=u.fr) (h3:kcs t.ks=kcs u.ks) (h4:rcs t.ro=rcs u.ro):tcs t=tcs u:=by unfold tcs;rw [h1,h2,h3,h4]
theorem stS_zero:tcs (stS 0)=tcs (tz 22):=by
 refine tcs_congr rfl rfl (Rt.kcs_congr fun i _=>?_) rfl;show (if i<0 then (⟨(i:Int)+1,0⟩:Ky) else zK)=zK
 exact if_neg (by omega)
theorem stS_all:tcs (stS 21)=tcs stT:=by
 refine tcs_congr rfl rfl (Rt.kcs_congr fun i hi=>?_) rfl;show (if i<21 then (⟨(i:Int)+1,0⟩:Ky) else zK)=⟨(i:Int)+1,0⟩
 exact if_pos hi
theorem stS_step (j:Nat):stS (j+1)={stS j with ks:=Rt.kup (stS j).ks j ⟨(j:Int)+1,0⟩}:=by
 unfold stS
 congr 1
 funext v
 show (if v<j+1 then (⟨(v:Int)+1,0⟩:Ky) else zK)=if v=j then ⟨(j:Int)+1,0⟩ else (if v<j then ⟨(v:Int)+1,0⟩ else zK)
 by_cases h:v=j
 ·subst h;rw [if_pos (by omega),if_pos rfl]
 ·rw [if_neg h];by_cases c:v<j
  ·rw [if_pos (by omega),if_pos c]
  ·rw [if_neg (by omega),if_neg c]
theorem tcs_set (t:Tr) (k:Nat) (hk:k<21) (a b:Int):((tcs t).setIfInBounds (2+k * 2) (.int .i64 a)).setIfInBounds (2+k * 2+1) (.int .i64 b)=tcs {t with ks:=Rt.kup t.ks k ⟨a,b⟩}:=by
 apply Array.ext_getElem?
 intro i;rw [Array.getElem?_setIfInBounds,Array.getElem?_setIfInBounds];rcases Nat.lt_or_ge i 2 with h | h
 ·rw [if_neg (by omega),if_neg (by omega)];have:i=0∨i=1:=by omega
  rcases this with rfl | rfl
  ·rw [tcs_0,tcs_0]
  ·rw [tcs_1,tcs_1]
 ·rcases Nat.lt_or_ge i 44 with h2 | h2
  ·obtain ⟨j,rfl⟩:∃j,i=2+j:=⟨i - 2,by omega⟩;rw [tcs_ks _ j (by omega),tcs_ks _ j (by omega)];have h3:=congrArg (·[j]?) (Rt.kcs_set t.ks k ⟨a,b⟩ hk);simp only [Array.getElem?_setIfInBounds,Array.size_setIfInBounds,Rt.kcs_size] at h3;rw [←h3];simp only [Array.size_setIfInBounds,tcs_size];by_cases c1:k * 2+1=j
   ·rw [if_pos (by omega),if_pos (by omega),if_pos c1,if_pos (by omega)]
   ·rw [if_neg (by omega),if_neg c1];by_cases c0:k * 2=j
    ·rw [if_pos (by omega),if_pos (by omega),if_pos c0,if_pos (by omega)]
    ·rw [if_neg (by omega),if_neg c0]
  ·obtain ⟨j,rfl⟩:∃j,i=44+j:=⟨i - 44,by omega⟩;rw [if_neg (by omega),if_neg (by omega),tcs_ro,tcs_ro]
theorem TrAt.set2 {w:World} {B:Nat} {t:Tr} (h:TrAt w B t) (k:Nat) (hk:k<21) (a b:Int):
  TrAt ((w.setCell ⟨B,2+k * 2,none⟩ (.int .i64 a)).setCell ⟨B,2+k * 2+1,none⟩ (.int .i64 b)) B {t with ks:=Rt.kup t.ks k ⟨a,b⟩}:=by
 have h3:=Rt.row_setCell (Rt.row_setCell h (2+k * 2) (.int .i64 a)) (2+k * 2+1) (.int .i64 b);rw [tcs_set t k hk a b] at h3;exact h3
theorem TrAt.congr {w:World} {B:Nat} {t u:Tr} (h:TrAt w B t) (e:tcs t=tcs u):TrAt w B u:=by unfold TrAt at *;rw [←e];exact h
theorem TrAt.row {w:World} {B:Nat} {t:Tr} (h:TrAt w B t) (u:Tr):TrAt (w.setRow B (tcs u)) B u:=Rt.heap_setRow_same h _
theorem stTr {ops:Array Oper} {rest:List Oper} {o:Oper} {a:Act} {w:World} {Q:Exit→Act→World→Prop} {B:Nat} {t u:Tr} (h:TrAt w B t) (hgd:o.guard=none) (x y:Operand) (ho:o.op=.store 54 x y)
  (hx:a.eval x=.pointer (some ⟨B,0,none⟩)) (hy:a.eval y=.agg (tcs u)) (k:wpList Tryz.prog ops Q rest (a.put o.dst undef) (w.setRow B (tcs u))):wpList Tryz.prog ops Q (o::rest) a w:=
 wpList_store_row hgd 54 x y ho B (tcs u) hx hy 54 (tcs t) h (by rw [tcs_size];exact infoT) (by rw [tcs_size,tcs_size]) (tcs_one u) k
theorem results_tr {fn:Func} {p:Tmp} (hf:fn.results=#[.cell p 54]) (tmps:Array Value) (W:World) (B:Nat) (t:Tr) (hp:tmps[p]? =some (.pointer (some ⟨B,0,none⟩))) (hb:TrAt W B t):
  (results fn tmps).run Tryz.prog W=.ok (.agg (tcs t)) W:=by
 have h:=run_loadVar_row W B _ 54 _ _ _ hb Tryz.underlying54 rfl (by rw [tcs_size];exact infoT);simp [results,hf,hp,asAddr,h]
theorem zero236:Tryz.zeroCells54=tcs (tz 0):=by kernel_rfl
theorem built236:Tryz.prog.built 54 [(1,.int .i64 22)]=some (tcs (tz 22)):=by kernel_rfl
theorem built236' (a:Act):Tryz.prog.built 54 ((#[(1,Operand.const (.int .i64 22))]:Array (Nat×Operand)).map fun (i,x)=>(i,a.eval x)).toList=some (tcs (tz 22)):=by
 rw [show ((#[(1,Operand.const (.int .i64 22))]:Array (Nat×Operand)).map fun (i,x)=>(i,a.eval x)).toList=[(1,Value.int .i64 22)] by simp [Act.eval]];exact built236
theorem TrAt.zero (w:World):TrAt (w.alloc (.cells Tryz.zeroCells54 54)) w.heap.size (tz 0):=by rw [zero236];exact TrAt.new w _
/- What stands when the keys are to be laid. -/
theorem st_begin (w:World):∃W,((w.alloc (.cells Tryz.zeroCells54 54)).alloc (.cells Tryz.zeroCells54 54)).setRow (w.heap.size+1) (tcs (tz 22))=W∧TrAt W w.heap.size (tz 0)∧TrAt W (w.heap.size+1) (tz 22)∧Below w.heap.size w W:=by
 have h1:=TrAt.zero w;have h2:=TrAt.zero (w.alloc (.cells Tryz.zeroCells54 54));have hb1:=below_alloc w (.cells Tryz.zeroCells54 54);have hb2:=below_alloc (w.alloc (.cells Tryz.zeroCells54 54)) (.cells Tryz.zeroCells54 54);rw [World.size_alloc] at h2;have h3:=h1.later hb2;have hb:=hb1.trans (hb2.mono hb1.size);refine ⟨_,rfl,?_,h2.row _,Rt.setRow_below (by omega) hb _⟩;exact (Rt.row_other (by omega) _).trans h3
set_option maxRecDepth 100000 in
set_option maxHeartbeats 1000000 in
theorem start_any (w:World):Calls Tryz.prog 127 #[] w fun e w'=>e=.returned (.agg (tcs stT))∧Below w.heap.size w w':=by
 have hz:=TrAt.zero (w.alloc (.cells Tryz.zeroCells54 54));rw [World.size_alloc] at hz;obtain ⟨W1,hW1,hA1,hZ1,hB1⟩:=st_begin w;go_enter Tryz.func127,Tryz.ntmps127;go_upto_region 1 with (fail)
 refine wp_region_lit ?_;refine wpList_buildTo rfl 54 _ rfl _ rfl (tcs (tz 22)) (built236' _) ?_;go_upto_region 2 with (refine stTr hz rfl _ _ rfl rfl rfl ?_)
 rw [hW1];clear hW1 hz;obtain ⟨ct,hct⟩:∃c,tcs (tz 22)=c:=⟨_,rfl⟩;rw [hct];clear hct;have HZ1:Hid (TrAt W1 (w.heap.size+1) (tz 22)):=hZ1;have HA1:Hid (TrAt W1 w.heap.size (tz 0)):=hA1;have HB1:Hid (Below w.heap.size w W1):=hB1;clear hZ1 hA1 hB1;go_wp2_with fail
 go_loopw [4] (fun i wx=>∃j:Nat,j≤21∧i=.int .i64 (j:Int)∧TrAt wx w.heap.size (tz 0)∧TrAt wx (w.heap.size+1) (stS j)∧Below w.heap.size w wx) (fun i _=>21 - (intOf i).toNat)
 case atStart=>exact ⟨0,by omega,rfl,HA1.out,HZ1.out.congr stS_zero.symm,HB1.out⟩
 case round=>
  obtain ⟨j,hj,rfl,hk,hz,hb⟩:=hrel;clear HZ1 HA1 HB1;by_cases hj8:j<21
  ·have j0:(0:Int)≤(j:Int):=by omega
   have j1:(j:Int)<21:=by omega
   obtain ⟨c0,c1⟩:=hz.key j hj8;have f0:=Rt.row_frozen hz (2+j * 2);have f1:=Rt.row_frozen hz (2+j * 2+1);have HZ:Hid (TrAt ((wr.setCell ⟨w.heap.size+1,2+j * 2,none⟩ (.int .i64 ((j:Int)+1))).setCell ⟨w.heap.size+1,2+j * 2+1,none⟩ (.int .i64 0)) (w.heap.size+1) (stS (j+1))):=by rw [stS_step];exact hz.set2 j hj8 _ _
   have HK:Hid (TrAt ((wr.setCell ⟨w.heap.size+1,2+j * 2,none⟩ (.int .i64 ((j:Int)+1))).setCell ⟨w.heap.size+1,2+j * 2+1,none⟩ (.int .i64 0)) w.heap.size (tz 0)):=(Rt.set2_other (by omega) _ _ _ _).trans hk;have HB:Hid (Below w.heap.size w ((wr.setCell ⟨w.heap.size+1,2+j * 2,none⟩ (.int .i64 ((j:Int)+1))).setCell ⟨w.heap.size+1,2+j * 2+1,none⟩ (.int .i64 0))):=Rt.set2_below hb (by omega) _ _ _ _;generalize (stS j).ks j=e at *;clear hk hz hb;go_wp2_with fail
   go_roundw
   case rel=>exact ⟨j+1,by omega,by go_num,HK.out,HZ.out,HB.out⟩
   case measure=>simp [intOf];omega
  ·obtain rfl:j=21:=by omega
   have hN:=hz.congr stS_all;go_upto_region 7 with (fail)
   refine wp_region_lit ?_;refine rdT hN rfl _ rfl rfl rfl ?_;go_wp2_with (refine stTr (u:=stT) hk rfl _ _ rfl rfl rfl ?_)
   refine bodyPost_ret (results_tr (p:=0) rfl _ _ w.heap.size stT rfl (hk.row _)) rfl ?_;exact ⟨rfl,Rt.setRow_below (by omega) hb _⟩
set_option maxRecDepth 100000 in
set_option maxHeartbeats 1000000 in
theorem rStart_any (w:World):Calls Tryz.prog 26 #[] w fun e w'=>e=.returned (.agg (tcs stT))∧Below w.heap.size w w':=by
 have hz:=TrAt.zero (w.alloc (.cells Tryz.zeroCells54 54));rw [World.size_alloc] at hz;obtain ⟨W1,hW1,hA1,hZ1,hB1⟩:=st_begin w;go_enter Tryz.func26,Tryz.ntmps26;go_upto_region 1 with (fail)
 refine wp_region_lit ?_;refine wpList_buildTo rfl 54 _ rfl _ rfl (tcs (tz 22)) (built236' _) ?_;go_upto_region 2 with (refine stTr hz rfl _ _ rfl rfl rfl ?_)
 rw [hW1];clear hW1 hz;obtain ⟨ct,hct⟩:∃c,tcs (tz 22)=c:=⟨_,rfl⟩;rw [hct];clear hct;have HZ1:Hid (TrAt W1 (w.heap.size+1) (tz 22)):=hZ1;have HA1:Hid (TrAt W1 w.heap.size (tz 0)):=hA1;have HB1:Hid (Below w.heap.size w W1):=hB1;clear hZ1 hA1 hB1;go_wp2_with fail
 go_loopw [2] (fun i wx=>∃j:Nat,j≤21∧i=.int .i64 (j:Int)∧TrAt wx w.heap.size (tz 0)∧TrAt wx (w.heap.size+1) (stS j)∧Below w.heap.size w wx) (fun i _=>21 - (intOf i).toNat)
 case atStart=>exact ⟨0,by omega,rfl,HA1.out,HZ1.out.congr stS_zero.symm,HB1.out⟩
 case round=>
  obtain ⟨j,hj,rfl,hk,hz,hb⟩:=hrel;clear HZ1 HA1 HB1;by_cases hj8:j<21
  ·have j0:(0:Int)≤(j:Int):=by omega
   have j1:(j:Int)<21:=by omega
   obtain ⟨c0,c1⟩:=hz.key j hj8;have f0:=Rt.row_frozen hz (2+j * 2);have f1:=Rt.row_frozen hz (2+j * 2+1);have HZ:Hid (TrAt ((wr.setCell ⟨w.heap.size+1,2+j * 2,none⟩ (.int .i64 ((j:Int)+1))).setCell ⟨w.heap.size+1,2+j * 2+1,none⟩ (.int .i64 0)) (w.heap.size+1) (stS (j+1))):=by rw [stS_step];exact hz.set2 j hj8 _ _
   have HK:Hid (TrAt ((wr.setCell ⟨w.heap.size+1,2+j * 2,none⟩ (.int .i64 ((j:Int)+1))).setCell ⟨w.heap.size+1,2+j * 2+1,none⟩ (.int .i64 0)) w.heap.size (tz 0)):=(Rt.set2_other (by omega) _ _ _ _).trans hk;have HB:Hid (Below w.heap.size w ((wr.setCell ⟨w.heap.size+1,2+j * 2,none⟩ (.int .i64 ((j:Int)+1))).setCell ⟨w.heap.size+1,2+j * 2+1,none⟩ (.int .i64 0))):=Rt.set2_below hb (by omega) _ _ _ _;generalize (stS j).ks j=e at *;clear hk hz hb;go_wp2_with fail
   go_roundw
   case rel=>exact ⟨j+1,by omega,by go_num,HK.out,HZ.out,HB.out⟩
   case measure=>simp [intOf];omega
  ·obtain rfl:j=21:=by omega
   have hN:=hz.congr stS_all;go_upto_region 6 with (fail)
   refine wp_region_lit ?_;refine rdT hN rfl _ rfl rfl rfl ?_;go_wp2_with (refine stTr (u:=stT) hk rfl _ _ rfl rfl rfl ?_)
   refine bodyPost_ret (results_tr (p:=0) rfl _ _ w.heap.size stT rfl (hk.row _)) rfl ?_;exact ⟨rfl,Rt.setRow_below (by omega) hb _⟩
open Rt (Ky zK kcs KsAt KyAt)
open Rs (En zE rcs RoAt EnAt)
set_option maxRecDepth 100000 in
set_option maxHeartbeats 1000000 in
theorem isKeyName_any (f:Nat→Ky) (x:Int) (w:World):Calls Tryz.prog 229 #[.agg (kcs f),.int .i64 x] w fun r w'=>r=.returned (.bool (isn f x))∧Below w.heap.size w w':=by
 have hn:=KsAt.new w f;have hB1:=Rt.alloc_ks w f;go_enter Tryz.func229,Tryz.ntmps229;go_upto_region 1 with (fail)
 generalize w.alloc (.cells (kcs f) 48)=w1 at *;refine wp_region_lit ?_;refine Rt.ldK hn rfl _ rfl rfl ?_;obtain ⟨c,hc⟩:∃c,kcs f=c:=⟨_,rfl⟩;rw [hc];go_wp2_with fail
 go_loopw [8] (fun i wx=>∃k:Nat,k≤21∧i=.int .i64 (k:Int)∧Below w1.heap.size w1 wx∧∀j,j<k→decide ((f j).bas=x)=false) (fun i _=>21 - (intOf i).toNat)
 case atStart=>exact ⟨0,by omega,rfl,Below.refl _ _,fun j hj=>by omega⟩
 case round=>
  obtain ⟨k,hk,rfl,hb,hf⟩:=hrel;have HB:Hid (Below w.heap.size w wr):=hB1.trans (hb.mono hB1.size);have HBW:Hid (Below w1.heap.size w1 wr):=hb;have HF:Hid (∀j,j<k→decide ((f j).bas=x)=false):=hf;clear hb hf;by_cases hk8:k<21
  ·have k8:(k:Int)<21:=by omega
   have hi:=Rt.idxK f k hk8;rw [hc] at hi;have HBE:Hid (Below wr.heap.size wr (wr.alloc (.cells #[.int .i64 (f k).bas,.int .i64 (f k).stp] 46))):=Rt.alloc_ky wr (f k);obtain ⟨e,he⟩:∃e,f k=e:=⟨_,rfl⟩;rw [he] at hi HBE;have HE:Hid (f k=e):=he;clear he hc;by_cases hx:e.bas=x
   ·have hx2:(e.bas==x)=true:=by simp [hx]
    have HX:Hid (e.bas=x):=hx;clear hx;go_wp2_with fail
    go_ret;exact ⟨ret_bool (by unfold isn;rw [any_yes hk8 (by rw [HE.out,HX.out];simp)]),HB.out.trans (HBE.out.mono HB.out.size)⟩
   ·have hx2:(e.bas==x)=false:=by simp [hx]
    go_wp2_with fail
    go_roundw
    case rel=>
     refine ⟨k+1,by omega,by go_num,HBW.out.trans (HBE.out.mono HBW.out.size),fun j hj=>?_⟩;rcases Nat.lt_or_ge j k with h | h
     ·exact HF.out j h
     ·obtain rfl:j=k:=by omega
      rw [HE.out];exact decide_eq_false hx
    case measure=>simp [intOf];omega
  ·obtain rfl:k=21:=by omega
   go_wp2_with fail
   go_ret;exact ⟨ret_bool (by unfold isn;rw [any_no HF.out]),HB.out⟩
theorem fk1_no1 {t:Tr} {k:Nat} {e:Ky} (he:t.ks k=e) (h:t.fr≤e.bas):fk1 t k=false:=by unfold fk1;rw [he,decide_eq_false (by omega)];rfl
theorem fk1_no2 {t:Tr} {k:Nat} {e:Ky} (he:t.ks k=e) (h:t.ep<e.stp):fk1 t k=false:=by unfold fk1;rw [he,decide_eq_false (p:=e.stp≤t.ep) (by omega),Bool.and_false]
theorem fk1_yes {t:Tr} {k:Nat} {e:Ky} (he:t.ks k=e) (h1:¬t.fr≤e.bas) (h2:¬t.ep<e.stp):fk1 t k=true:=by unfold fk1;rw [he,decide_eq_true (by omega),decide_eq_true (by omega)];rfl
set_option maxRecDepth 100000 in
set_option maxHeartbeats 1000000 in
theorem keysFit_any (t:Tr) (w:World):Calls Tryz.prog 171 #[.agg (tcs t)] w fun r w'=>r=.returned (.bool (fitK t))∧Below w.heap.size w w':=by
 have hn:=TrAt.new w t;have hB1:=alloc_tr w t;obtain ⟨c,hc⟩:∃c,kcs t.ks=c:=⟨_,rfl⟩;have HC:Hid (kcs t.ks=c):=hc;clear hc;go_enter Tryz.func171,Tryz.ntmps171;go_upto_region 1 with (fail)
 generalize w.alloc (.cells (tcs t) 54)=w1 at *;obtain ⟨B,hBB⟩:∃B,w.heap.size=B:=⟨_,rfl⟩;rw [hBB] at hn ⊢;obtain ⟨ct,hct⟩:∃ct,tcs t=ct:=⟨_,rfl⟩;rw [hct];clear hct;have HBB:Hid (w.heap.size=B):=hBB;clear hBB;go_wp2_with (refine rdK hn HC.out _ rfl rfl rfl ?_)
 go_loopw [7] (fun i wx=>∃k:Nat,k≤21∧i=.int .i64 (k:Int)∧Below w1.heap.size w1 wx∧∀j,j<k→fk1 t j=true) (fun i _=>21 - (intOf i).toNat)
 case atStart=>exact ⟨0,by omega,rfl,Below.refl _ _,fun j hj=>by omega⟩
 case round=>
  obtain ⟨k,hk,rfl,hb,hf⟩:=hrel;have HB:Hid (Below w.heap.size w wr):=hB1.trans (hb.mono hB1.size);have HBW:Hid (Below w1.heap.size w1 wr):=hb;have HF:Hid (∀j,j<k→fk1 t j=true):=hf;by_cases hk8:k<21
  ·have k8:(k:Int)<21:=by omega
   have hi:=Rt.idxK t.ks k hk8;simp only [HC.out] at hi;obtain ⟨c0,c1⟩:=(hn.later hb).cells;have d0:=fun o=>cell_alloc_lt c0 o
   have d1:=fun o=>cell_alloc_lt c1 o
   have HBE:Hid (Below wr.heap.size wr (wr.alloc (.cells #[.int .i64 (t.ks k).bas,.int .i64 (t.ks k).stp] 46))):=Rt.alloc_ky wr (t.ks k);obtain ⟨e,he⟩:∃e,t.ks k=e:=⟨_,rfl⟩;rw [he] at hi HBE;have HE:Hid (t.ks k=e):=he;clear he c0 c1 hb hf;by_cases g1:t.fr≤e.bas
   ·go_wp2_with fail
    go_ret;exact ⟨ret_bool (by unfold fitK;rw [all_no hk8 (fk1_no1 HE.out g1)]),HB.out.trans (HBE.out.mono HB.out.size)⟩
   ·by_cases g2:t.ep<e.stp
    ·go_wp2_with fail
     go_ret;exact ⟨ret_bool (by unfold fitK;rw [all_no hk8 (fk1_no2 HE.out g2)]),HB.out.trans (HBE.out.mono HB.out.size)⟩
    ·go_wp2_with fail
     go_roundw
     case rel=>
      refine ⟨k+1,by omega,by go_num,HBW.out.trans (HBE.out.mono HBW.out.size),fun j hj=>?_⟩;rcases Nat.lt_or_ge j k with h | h
      ·exact HF.out j h
      ·obtain rfl:j=k:=by omega
       exact fk1_yes HE.out (by omega) (by omega)
     case measure=>simp [intOf];omega
  ·obtain rfl:k=21:=by omega
   clear hb hf;go_wp2_with fail
   go_ret;exact ⟨ret_bool (by unfold fitK;rw [all_yes HF.out]),HB.out⟩
theorem fs1_no1 {t:Tr} {k:Nat} {e:En} (he:t.ro k=e) (h:t.fr≤e.bas):fs1 t k=false:=by unfold fs1;rw [he,decide_eq_false (by omega)];rfl
theorem fs1_no2 {t:Tr} {k:Nat} {e:En} (he:t.ro k=e) (h:t.ep<e.snc):fs1 t k=false:=by unfold fs1;rw [he,decide_eq_false (p:=e.snc≤t.ep) (by omega),Bool.false_and,Bool.and_false]
theorem fs1_no3 {t:Tr} {k:Nat} {e:En} (he:t.ro k=e) (h:isn t.ks e.bas=true):fs1 t k=false:=by unfold fs1;rw [he,h,Bool.not_true,Bool.and_false,Bool.and_false]
theorem fs1_yes {t:Tr} {k:Nat} {e:En} (he:t.ro k=e) (h1:¬t.fr≤e.bas) (h2:¬t.ep<e.snc) (h3:isn t.ks e.bas=false):fs1 t k=true:=by unfold fs1;rw [he,h3,decide_eq_true (by omega),decide_eq_true (by omega)];rfl
set_option maxRecDepth 100000 in
set_option maxHeartbeats 1000000 in
theorem seatsFit_any (t:Tr) (w:World):Calls Tryz.prog 172 #[.agg (tcs t)] w fun r w'=>r=.returned (.bool (fitS t))∧Below w.heap.size w w':=by
 have hn:=TrAt.new w t;have hB1:=alloc_tr w t;have hnm:=fun x=>isKeyName_any t.ks x
 obtain ⟨c,hc⟩:∃c,rcs t.ro=c:=⟨_,rfl⟩;have HC:Hid (rcs t.ro=c):=hc;clear hc;obtain ⟨ck,hck⟩:∃c,kcs t.ks=c:=⟨_,rfl⟩;simp only [hck] at hnm;have HK:Hid (kcs t.ks=ck):=hck;clear hck;go_enter Tryz.func172,Tryz.ntmps172;go_upto_region 1 with (fail)
 generalize w.alloc (.cells (tcs t) 54)=w1 at *;obtain ⟨B,hBB⟩:∃B,w.heap.size=B:=⟨_,rfl⟩;rw [hBB] at hn ⊢;obtain ⟨ct,hct⟩:∃ct,tcs t=ct:=⟨_,rfl⟩;rw [hct];clear hct;have HBB:Hid (w.heap.size=B):=hBB;clear hBB;go_wp2_with (refine rdR hn HC.out _ rfl rfl rfl ?_)
 go_loopw [7] (fun i wx=>∃k:Nat,k≤64∧i=.int .i64 (k:Int)∧Below w1.heap.size w1 wx∧∀j,j<k→fs1 t j=true) (fun i _=>64 - (intOf i).toNat)
 case atStart=>exact ⟨0,by omega,rfl,Below.refl _ _,fun j hj=>by omega⟩
 case round=>
  obtain ⟨k,hk,rfl,hb,hf⟩:=hrel;have HB:Hid (Below w.heap.size w wr):=hB1.trans (hb.mono hB1.size);have HBW:Hid (Below w1.heap.size w1 wr):=hb;have HF:Hid (∀j,j<k→fs1 t j=true):=hf;by_cases hk8:k<64
  ·have k8:(k:Int)<64:=by omega
   have hi:=Rs.idx25 t.ro k hk8;simp only [HC.out] at hi;have hT:=hn.later hb;obtain ⟨c0,c1⟩:=hT.cells;have d0:=fun o=>cell_alloc_lt c0 o
   have d1:=fun o=>cell_alloc_lt c1 o
   have hBE:=Rs.alloc_en wr (t.ro k);obtain ⟨e,he⟩:∃e,t.ro k=e:=⟨_,rfl⟩;rw [he] at hi hBE;have hTE:=hT.later hBE;have HBE:Hid (Below wr.heap.size wr (wr.alloc (.cells #[.int .i64 e.who,.int .i64 e.bas,.int .i64 e.snc] 50))):=hBE;have HE:Hid (t.ro k=e):=he;clear he c0 c1 hb hf hT hBE;by_cases g1:t.fr≤e.bas
   ·clear hTE;go_wp2_with fail
    go_ret;exact ⟨ret_bool (by unfold fitS;rw [all_no hk8 (fs1_no1 HE.out g1)]),HB.out.trans (HBE.out.mono HB.out.size)⟩
   ·by_cases g2:t.ep<e.snc
    ·clear hTE;go_wp2_with fail
     go_ret;exact ⟨ret_bool (by unfold fitS;rw [all_no hk8 (fs1_no2 HE.out g2)]),HB.out.trans (HBE.out.mono HB.out.size)⟩
    ·go_wp2_with (refine rdK hTE HK.out _ rfl rfl rfl ?_)
     refine (hnm e.bas _).mono ?_;rintro r w3 ⟨rfl,hb3⟩;have HB4:Hid (Below wr.heap.size wr w3):=HBE.out.trans (hb3.mono HBE.out.size);clear hTE hb3 d0 d1 hi
     cases h3:isn t.ks e.bas with
     | true=>
      go_wp2_with fail
      go_ret;exact ⟨ret_bool (by unfold fitS;rw [all_no hk8 (fs1_no3 HE.out h3)]),HB.out.trans (HB4.out.mono HB.out.size)⟩
     | false=>
      go_wp2_with fail
      go_roundw
      case rel=>
       refine ⟨k+1,by omega,by go_num,HBW.out.trans (HB4.out.mono HBW.out.size),fun j hj=>?_⟩;rcases Nat.lt_or_ge j k with h | h
       ·exact HF.out j h
       ·obtain rfl:j=k:=by omega
        exact fs1_yes HE.out (by omega) (by omega) h3
      case measure=>simp [intOf];omega
  ·obtain rfl:k=64:=by omega
   clear hb hf;go_wp2_with fail
   go_ret;exact ⟨ret_bool (by unfold fitS;rw [all_yes HF.out]),HB.out⟩
end Go.Proofs.YtoimkngkcliinaaGreatDoor
