/- SvMath, SvA, SvC, SvE, SvF, joined. -/
import Derived.Test.YtoimkngkcliinaaGreatDoorJRcN
import Derived.Test.YtoimkngkcliinaaGreatDoorJJnO
import Derived.Test.YtoimkngkcliinaaGreatDoorJWiMath2
import Derived.Test.YtoimkngkcliinaaGreatDoorJJnB
import Derived.Test.YtoimkngkcliinaaGreatDoorChecked
import Derived.WalkKit
import Derived.LaidEql
import Derived.Stop.Asserts
import Derived.RowKitTokens
namespace Go.Proofs.YtoimkngkcliinaaGreatDoor
open Go.RowKit Go.Maps Rc
open Jr (recs blks np np_spec blks_length)
open Jr.Dk (recs_add)
open Bt (tb bys)
set_option linter.unusedVariables false
set_option maxRecDepth 4000
set_option linter.unusedSimpArgs false
def bhE (t:Tr) (X:ByteArray):Int:=if okR (tb (bys X)) then plyE t (rEp (tb (bys X))) (rFr (tb (bys X))) (rLv (tb (bys X))) (rJn (tb (bys X))) else 12
def bhT (t:Tr) (X:ByteArray):Tr:=if okR (tb (bys X)) then plyT t (rEp (tb (bys X))) (rFr (tb (bys X))) (rLv (tb (bys X))) (rJn (tb (bys X))) else tz 0
def rpy:Tr→List ByteArray→Option Tr
 | t,[]=>some t
 | t,X::l=>if bhE t X=0 then rpy (bhT t X) l else none
theorem rpy_snoc:∀{l:List ByteArray} {t u:Tr} {X:ByteArray},rpy t l=some u→bhE u X=0→rpy t (l++[X])=some (bhT u X)
 | [],t,u,X,h,h2=>by
  cases h
  show (if bhE t X=0 then rpy (bhT t X) [] else none)=_
  rw [if_pos h2];rfl
 | Y::l,t,u,X,h,h2=>by
  have h1:(if bhE t Y=0 then rpy (bhT t Y) l else none)=some u:=h;by_cases e:bhE t Y=0
  ·rw [if_pos e] at h1;show (if bhE t Y=0 then rpy (bhT t Y) (l++[X]) else none)=_
   rw [if_pos e];exact rpy_snoc h1 h2
  ·rw [if_neg e] at h1;cases h1
/- The prefixes of a row that leads somewhere. -/
theorem rpy_take:∀{l:List ByteArray} {t u:Tr},rpy t l=some u→∀k,k<l.length→∃v,rpy t (l.take k)=some v∧bhE v (l.getD k ⟨#[]⟩)=0∧rpy t (l.take (k+1))=some (bhT v (l.getD k ⟨#[]⟩))
 | [],t,u,h,k,hk=>by cases hk
 | Y::l,t,u,h,k,hk=>by
  have h1:(if bhE t Y=0 then rpy (bhT t Y) l else none)=some u:=h;by_cases e:bhE t Y=0
  ·rw [if_pos e] at h1
   cases k with
   | zero=>exact ⟨t,rfl,e,by show (if bhE t Y=0 then rpy (bhT t Y) [] else none)=_;rw [if_pos e];rfl⟩
   | succ k=>
    obtain ⟨v,a,b,c⟩:=rpy_take h1 k (by simpa using hk);refine ⟨v,?_,b,?_⟩
    ·show (if bhE t Y=0 then rpy (bhT t Y) (l.take k) else none)=_
     rw [if_pos e];exact a
    ·show (if bhE t Y=0 then rpy (bhT t Y) (l.take (k+1)) else none)=_
     rw [if_pos e];exact c
  ·rw [if_neg e] at h1;cases h1
theorem lg_size {t:Tr} {L J:List Int} (h:plE t L J=0):(lg t (L,J)).size≤181:=by
 have h1:=step_rgt h;have h2:=wr_size h1;rw [bits_flds] at h2;have h3:=rgt_iff.1 h1;have h4:=h3.l1;have h5:=h3.j1;unfold lg;dsimp only;omega
theorem lg_bh {t:Tr} {L J:List Int} (h:plE t L J=0):bhE t (lg t (L,J))=0∧bhT t (lg t (L,J))=pnT t L J:=by
 obtain ⟨a,b,c,d,e⟩:=wr_rd (step_rgt h);obtain ⟨p,q,-⟩:=play_own h;unfold bhE bhT lg;dsimp only;rw [a,b,c,d,e];exact ⟨p,q⟩
theorem np_lg {n:Nat} (h:n≤181):1≤np n∧np n≤8:=by
 obtain ⟨-,h1,-,-,h4⟩:=np_spec n (by omega);omega
/- Records that lead from the beginning to a tree, as steps' own records do. -/
structure Lead (ps:List ByteArray) (t:Tr):Prop where
 rp:rpy stT ps=some t
 ep:t.ep=(ps.length:Int)
 le:(recs 1 ps).length≤8 * ps.length
theorem Lead.nil:Lead [] stT:=⟨rfl,rfl,Nat.zero_le _⟩
theorem Lead.snoc {ps:List ByteArray} {t:Tr} (h:Lead ps t) {L J:List Int} (h0:plE t L J=0):Lead (ps++[lg t (L,J)]) (pnT t L J)∧ps.length≤199:=by
 obtain ⟨a,b⟩:=lg_bh h0;obtain ⟨c,d,e⟩:=nx_ep h0;have h1:=h.ep;refine ⟨⟨by rw [rpy_snoc h.rp a,b],by rw [c,h1];simp,?_⟩,by omega⟩;have:=(np_lg (lg_size h0)).2;have h2:=h.le;rw [recs_add,List.length_append,blks_length,List.length_append,List.length_singleton];omega
/- There is room for it. -/
theorem Lead.room {ps:List ByteArray} {t:Tr} (h:Lead ps t) {L J:List Int} (h0:plE t L J=0):(lg t (L,J)).size≤5865∧¬(2048<(recs 1 ps).length+np (lg t (L,J)).size∨65535≤ps.length):=by
 have h1:=(h.snoc h0).2;have h2:=h.le;have h3:=lg_size h0;have h4:=(np_lg h3).2;omega
open Go.RowKit Go.Maps
open Jr.Dk (Go1 Jn St Dk KeepT)
open Wi (upd row_upd row_set row_later row_fr row_lt th_of stM)
def svl (p j:Nat) (t:Tr) (d:Bool):List Value:=[.pointer (some ⟨p,0,none⟩),.pointer (some ⟨j,0,none⟩)]++((tcs t).toList++[.bool d])
def sva (p j:Nat) (t:Tr) (d:Bool):Array Value:=(svl p j t d).toArray
def SvAt (w:World) (S p j:Nat) (t:Tr) (d:Bool):Prop:=w.heap[S]? =some (.cells (sva p j t d) 137 (0,0))
section
variable {w w':World} {S p j:Nat} {t:Tr} {d:Bool}
theorem tcl_len (t:Tr):(tcs t).toList.length=236:=by rw [Array.length_toList,tcs_size]
theorem sva_size:(sva p j t d).size=239:=by
 have:=tcl_len t;simp [sva,svl]
theorem sva_tr {i:Nat} (hi:i<236):(sva p j t d)[2+i]? =(tcs t)[i]? :=by
 have:=tcl_len t;unfold sva svl;rw [List.getElem?_toArray,List.getElem?_append_right (by simp),List.getElem?_append_left (by simp;omega)];simp
theorem sva_end:(sva p j t d)[238]? =some (.bool d):=by
 have:=tcl_len t;unfold sva svl;rw [List.getElem?_toArray,List.getElem?_append_right (by simp),List.getElem?_append_right (by simp)];simp
theorem SvAt.cells (h:SvAt w S p j t d):w.cell? ⟨S,0,none⟩=some (.pointer (some ⟨p,0,none⟩))∧w.cell? ⟨S,1,none⟩=some (.pointer (some ⟨j,0,none⟩))∧w.cell? ⟨S,238,none⟩=some (.bool d):=
 ⟨(cell_of_row w S _ _ _ _ h).trans rfl,(cell_of_row w S _ _ _ _ h).trans rfl,(cell_of_row w S _ _ _ _ h).trans sva_end⟩
theorem SvAt.later (h:SvAt w S p j t d) (hb:Below w.heap.size w w'):SvAt w' S p j t d:=row_later h hb
theorem SvAt.tree (h:SvAt w S p j t d):(Instr.loadAt 54 (.pointer (some ⟨S,2,none⟩))).run Tryz.prog w=.ok (.agg (tcs t)) w:=
 part_run h Tryz.underlying54 rfl infoT 2 (tcs_size t) fun j hj=>sva_tr hj
theorem upd_mid:∀(l2' l1 l2 l3:List Value),l2.length=l2'.length→upd (l1++(l2++l3)).toArray l1.length l2'=(l1++(l2'++l3)).toArray
 | [],l1,l2,l3,h=>by
  have:l2=[]:=List.length_eq_zero_iff.1 h;subst this;rfl
 | v::r,l1,[],l3,h=>by cases h
 | v::r,l1,x::l2,l3,h=>by
  rw [upd]
  have e:(l1++(x::l2++l3)).toArray.setIfInBounds l1.length v=((l1++[v])++(l2++l3)).toArray:=by
   rw [List.setIfInBounds_toArray];simp
  have:=upd_mid r (l1++[v]) l2 l3 (by simpa using h);rw [List.length_append,List.length_singleton] at this;rw [e,this];simp
theorem SvAt.set (h:SvAt w S p j t d) (n:Tr):SvAt (w.setCells S 2 (tcs n).toList) S p j n d:=by
 have h1:=row_upd (tcs n).toList 2 h;have e:=upd_mid (tcs n).toList [.pointer (some ⟨p,0,none⟩),.pointer (some ⟨j,0,none⟩)] (tcs t).toList [.bool d] (by rw [tcl_len,tcl_len]);unfold SvAt;rw [h1];unfold sva svl;rw [show ([Value.pointer (some ⟨p,0,none⟩),Value.pointer (some ⟨j,0,none⟩)]:List Value).length=2 from rfl] at e;rw [e]
theorem set_end (A:List Value) (x y:Value):(A++[x]).toArray.setIfInBounds A.length y=(A++[y]).toArray:=by
 rw [List.setIfInBounds_toArray];simp
theorem SvAt.die (h:SvAt w S p j t d):SvAt (w.setCell ⟨S,238,none⟩ (.bool true)) S p j t true:=by
 have h1:=row_set h 238 (.bool true);have e:=set_end ([Value.pointer (some ⟨p,0,none⟩),Value.pointer (some ⟨j,0,none⟩)]++(tcs t).toList) (.bool d) (.bool true);have hl:([Value.pointer (some ⟨p,0,none⟩),Value.pointer (some ⟨j,0,none⟩)]++(tcs t).toList).length=238:=by rw [List.length_append,tcl_len];rfl
 rw [hl] at e;unfold SvAt;rw [h1];unfold sva svl;rw [←List.append_assoc,e,List.append_assoc]
end
theorem rdS {w:World} {ops:Array Oper} {rest:List Oper} {o:Oper} {a:Act} {Q:Exit→Act→World→Prop} {S p j:Nat} {t:Tr} {d:Bool} {c:Array Value} (h:SvAt w S p j t d) (hc:tcs t=c) (x:Operand) (ho:o.op=.load 54 x)
  (hx:a.eval x=.pointer (some ⟨S,2,none⟩)) (hw:Region.wanted o (yielded ops a.tmps)=true) (k:wpList Tryz.prog ops Q rest (a.put o.dst (.agg c)) w):wpList Tryz.prog ops Q (o::rest) a w:=
 rd_guard hw (ld_exec (hc ▸ h.tree) ho hx) k
/- Where the server's block alone is written to. -/
theorem kept_cells (S:Nat):∀(vs:List Value) (o:Nat) {a w:World},Jr.Dk.Kept (fun k=>k=S) a w→Jr.Dk.Kept (fun k=>k=S) a (w.setCells S o vs)
 | [],o,a,w,h=>h
 | v::r,o,a,w,h=>by
  rw [World.setCells];exact kept_cells S r (o+1) (h.setCell (p:=⟨S,o,none⟩) (fun _=>rfl) v)
section
variable {N:Nat} {w0 w w':World} {p S j q c a:Nat} {s:St} {d:Bool} {cs:Array Value} {fz:Nat×Nat}
theorem go_other (h:Go1 N w0 w p s) (hS:w.heap[S]? =some (.cells cs 137 fz)) (hN:N≤S) (hk:Jr.Dk.Kept (fun k=>k=S) w w'):Go1 N w0 w' p s:=by
 obtain ⟨⟨b,m,x,dk⟩,g1,g2⟩:=h;refine ⟨⟨b,m,x,dk.kept hk (fun k hF hv=>?_)⟩,Jr.Dk.belowJ g1 hk (fun i hi=>by cases hi;exact hN) g2,Nat.le_trans g2 hk.size⟩;cases hv
 exact dk.notT hS (by decide) (by decide) hF
theorem jn_other (h:Jn w j q c a d) (hS:w.heap[S]? =some (.cells cs 137 fz)) (hk:Jr.Dk.Kept (fun k=>k=S) w w'):Jn w' j q c a d:=by
 refine (hk.block j h.lt (fun e=>?_)).trans h;subst e;unfold Jn at h;rw [hS] at h;cases h
end
/- What stays while disk, journal and server are written to. -/
def KeepS (w w':World):Prop:=∀(k:Nat) (cs:Array Value) (t:TypeId) (fz:Nat×Nat),w.heap[k]? =some (.cells cs t fz)→t≠132→t≠139→t≠251→t≠137→w'.heap[k]? =some (.cells cs t fz)
theorem KeepS.ofT {w w':World} (h:KeepT w w'):KeepS w w':=fun k cs t fz e h1 h2 h3 _=>h k cs t fz e h1 h2 h3
theorem KeepS.ofBelow {w w':World} (h:Below w.heap.size w w'):KeepS w w':=.ofT (KeepT.ofBelow h)
theorem KeepS.trans {a b c:World} (h:KeepS a b) (g:KeepS b c):KeepS a c:=fun k cs t fz e h1 h2 h3 h4=>g k cs t fz (h k cs t fz e h1 h2 h3 h4) h1 h2 h3 h4
theorem KeepS.ofKept {w w':World} {S:Nat} {ds:Array Value} {f2:Nat×Nat} (hS:w.heap[S]? =some (.cells ds 137 f2)) (hk:Jr.Dk.Kept (fun k=>k=S) w w'):KeepS w w':=fun k cs t fz e h1 h2 h3 h4=>by
 refine (hk.block k (row_lt e) (fun e2=>?_)).trans e;subst e2;rw [hS] at e;cases e
 exact h4 rfl
open Rs (RdI cell_later ps Tb i64s owns_later owns_slice)
theorem results_te {fn:Func} {p t:Tmp} (hf:fn.results=#[.cell p 54,.tmp t]) (tmps:Array Value) (W:World) (K:Nat) (u:Tr) (hp:tmps[p]? =some (.pointer (some ⟨K,0,none⟩))) (hk:TrAt W K u):
  (results fn tmps).run Tryz.prog W=.ok (.tuple #[.agg (tcs u),tmps.getD t undef]) W:=by
 have h:=run_loadVar_row W K _ 54 _ _ _ hk Tryz.underlying54 rfl (by rw [tcs_size];exact infoT);simp [results,hf,hp,asAddr,h]
theorem one_box (w:World) (u:Tr) (c:Array Value) (hc:tcs u=c):TrAt (w.alloc (.cells Tryz.zeroCells54 54)) w.heap.size (tz 0)∧∃W,(w.alloc (.cells Tryz.zeroCells54 54)).setRow w.heap.size c=W∧TrAt W w.heap.size u∧Below w.heap.size w W:=by
 subst hc;rw [zero236];have h1:=TrAt.new w (tz 0);exact ⟨h1,_,rfl,Rt.heap_setRow_same h1 (tcs u),Rt.setRow_below (Nat.le_refl _) (below_alloc w _) _⟩
/- The tree, boxed, and the answer's place. -/
structure SB (w W:World) (B K:Nat) (t u:Tr):Prop where
 tr:TrAt W B t
 re:TrAt W K u
 bel:Below w.heap.size w W
 ge:w.heap.size≤K
 gb:w.heap.size≤B
 ne:B≠K
section
variable {w W W':World} {B K:Nat} {t u:Tr}
theorem SB.later (h:SB w W B K t u) (hb:Below W.heap.size W W'):SB w W' B K t u:=⟨h.tr.later hb,h.re.later hb,h.bel.trans (hb.mono h.bel.size),h.ge,h.gb,h.ne⟩
theorem SB.set (h:SB w W B K t u) (n:Tr):SB w (W.setRow K (tcs n)) B K t n:=⟨(Rt.row_other h.ne _).trans h.tr,Rt.heap_setRow_same h.re _,Rt.setRow_below h.ge h.bel _,h.ge,h.gb,h.ne⟩
theorem SB.put (h:SB w W B K t u) (n:Tr):SB w (W.setRow B (tcs n)) B K n u:=⟨Rt.heap_setRow_same h.tr _,(Rt.row_other (Ne.symm h.ne) _).trans h.re,Rt.setRow_below h.gb h.bel _,h.ge,h.gb,h.ne⟩
theorem SB.new (w:World) (t:Tr):SB w ((w.alloc (.cells (tcs t) 54)).alloc (.cells Tryz.zeroCells54 54)) w.heap.size (w.heap.size+1) t (tz 0):=by
 rw [zero236];have h1:=TrAt.new w t;have b1:=alloc_tr w t;have s1:(w.alloc (.cells (tcs t) 54)).heap.size=w.heap.size+1:=World.size_alloc _ _;have h2:=TrAt.new (w.alloc (.cells (tcs t) 54)) (tz 0);have b2:=alloc_tr (w.alloc (.cells (tcs t) 54)) (tz 0);rw [s1] at h2;exact ⟨h1.later b2,h2,b1.trans (b2.mono b1.size),by omega,by omega,by omega⟩
end
theorem qLv_len (X:ByteArray):(qLv (tb (bys X))).length≤128∧(qJn (tb (bys X))).length≤128:=by
 have h:=rd_fit (tb (bys X));have h1:=h.l1;have h2:=h.j1;unfold qLv qJn;constructor <;> split <;> first | omega | simp
set_option maxHeartbeats 1000000 in
theorem behind_any (t:Tr) (X:ByteArray) (w:World) (hTb:Tb w) (hX:X.size<1125899906842624):
  Calls Tryz.prog 128 #[.agg (tcs t),.string X] w fun r w'=>r=.returned (.tuple #[.agg (tcs (bhT t X)),.int .i64 (bhE t X)])∧Below w.heap.size w w':=by
 have hRD:=fun W=>read_any X W hX
 obtain ⟨hL1,hJ1⟩:=qLv_len X;have hPL:=fun W (hW:Below w.heap.size w W) a b k m (ha:RdI W a (qLv (tb (bys X)))) (hb:RdP W b (qJn (tb (bys X))))=>play_any t (qEp (tb (bys X))) (qFr (tb (bys X))) a b k m (qLv (tb (bys X))) (qJn (tb (bys X))) W (hTb.later hW) ha hb (by omega) (by omega)
 unfold RdRec at hRD;unfold PlayA at hPL;have hS:=SB.new w t
 have HN:Hid (rdE (tb (bys X))≠0→bhT t X=tz 0∧bhE t X=rdE (tb (bys X))):=fun h=>by
  unfold rdE at h ⊢;unfold bhT bhE
  cases hk:okR (tb (bys X)) with
  | true=>rw [hk] at h;exact absurd rfl h
  | false=>exact ⟨rfl,rfl⟩
 have HY:Hid (rdE (tb (bys X))=0→bhT t X=plyT t (qEp (tb (bys X))) (qFr (tb (bys X))) (qLv (tb (bys X))) (qJn (tb (bys X)))∧bhE t X=plyE t (qEp (tb (bys X))) (qFr (tb (bys X))) (qLv (tb (bys X))) (qJn (tb (bys X)))):=fun h=>by
  unfold rdE at h
  cases hk:okR (tb (bys X)) with
  | false=>rw [hk] at h;cases h
  | true=>
   unfold bhT bhE qEp qFr qLv qJn;rw [hk];exact ⟨rfl,rfl⟩
 obtain ⟨E,hE⟩:∃e,rdE (tb (bys X))=e:=⟨_,rfl⟩;obtain ⟨ep,hep⟩:∃e,qEp (tb (bys X))=e:=⟨_,rfl⟩;obtain ⟨fr,hfr⟩:∃e,qFr (tb (bys X))=e:=⟨_,rfl⟩;obtain ⟨L,hL⟩:∃l,qLv (tb (bys X))=l:=⟨_,rfl⟩;obtain ⟨J,hJ⟩:∃l,qJn (tb (bys X))=l:=⟨_,rfl⟩;rw [hE,hep,hfr,hL,hJ] at hRD HY;rw [hE] at HN;simp only [hep,hfr,hL,hJ] at hPL;rw [hL] at hL1;rw [hJ] at hJ1;clear hE hep hfr hL hJ hTb hX;obtain ⟨n,hn⟩:∃n,plyT t ep fr L J=n:=⟨_,rfl⟩;obtain ⟨p,hp⟩:∃n,plyP t ep fr L J=n:=⟨_,rfl⟩;obtain ⟨E2,hE2⟩:∃n,plyE t ep fr L J=n:=⟨_,rfl⟩;obtain ⟨ll,hll⟩:∃n,plyL t ep fr L J=n:=⟨_,rfl⟩;obtain ⟨lj,hlj⟩:∃n,plyJ t ep fr L J=n:=⟨_,rfl⟩;obtain ⟨li,hli⟩:∃n,plyI t ep fr L J=n:=⟨_,rfl⟩;obtain ⟨cn,hcn⟩:∃c,tcs n=c:=⟨_,rfl⟩;obtain ⟨ct,hct⟩:∃c,tcs t=c:=⟨_,rfl⟩;obtain ⟨cz,hcz⟩:∃c,tcs (tz 0)=c:=⟨_,rfl⟩;rw [hn,hE2] at HY;simp only [hn,hp,hE2,hll,hlj,hli,hcn,hct] at hPL;have HC:Hid (tcs n=cn):=hcn;have HT:Hid (tcs t=ct):=hct;have HZ:Hid (tcs (tz 0)=cz):=hcz;have HPL:Hid _:=hPL;clear hn hp hE2 hll hlj hli hcn hct hcz hPL;go_enter Tryz.func128,Tryz.ntmps128;go_upto_region 1 with (fail)
 obtain ⟨K,hK⟩:∃K,w.heap.size+1=K:=⟨_,rfl⟩;obtain ⟨B,hB⟩:∃K,w.heap.size=K:=⟨_,rfl⟩;rw [hK,hB] at hS;rw [hK,hB];clear hK hB;generalize (w.alloc (.cells (tcs t) 54)).alloc (.cells Tryz.zeroCells54 54)=w1 at *;have HS:Hid (SB w w1 B K t (tz 0)):=hS;have h1:=hRD w1;clear hRD hS;go_wp2_with fail
 refine h1.mono ?_;rintro r u5 ⟨vL,vJ,rfl,g1,g2,hb2⟩;obtain ⟨a6,k6,rfl⟩:=owns_slice g1;obtain ⟨a7,k7,rfl⟩:=owns_slice g2;have hbR:=below_alloc u5 (.cells #[.int .i64 ep,.int .i64 fr,.slice a6 L.length k6,.slice a7 J.length k7] 94);have hR:=RcAt.new u5 #[.int .i64 ep,.int .i64 fr,.slice a6 L.length k6,.slice a7 J.length k7];have rl:=(rdI_of g1).later hbR;have rj:=(rdP_of g2).later hbR;have hb3:=hb2.trans (hbR.mono hb2.size);have HS6:=HS.out.later hb3;clear h1 g1 g2 hb2 hbR HS;go_upto_region 2 with (fail)
 generalize u5.alloc (.cells #[.int .i64 ep,.int .i64 fr,.slice a6 L.length k6,.slice a7 J.length k7] 94)=w6 at *;generalize u5.heap.size=R at *;have HS:Hid (SB w w6 B K t (tz 0)):=HS6;clear HS6 hb3;by_cases h0:E=0
 ·subst h0;have HQ:Hid (bhT t X=n∧bhE t X=E2):=HY.out rfl;have h1:=HPL.out w6 HS.out.bel a6 a7 k6 k7 rl rj;have hT1:=HS.out.tr;obtain ⟨x0,x1,x2,x3⟩:=hR.cells;clear HY HN HPL rl rj hR;go_wp2_with (show wpList _ _ _ ({dst:=_,op:=Op.load 54 _,type:=_,pos:=_,after:=_,guard:=_}::_) _ _;refine rdT hT1 HT.out _ rfl rfl rfl ?_)
  refine h1.mono ?_;rintro r w7 ⟨⟨vl,vj,vi,rfl,hP⟩,hb7⟩;obtain ⟨e1,f1,rfl⟩:=owns_slice hP.left;obtain ⟨e2,f2,rfl⟩:=owns_slice hP.join;obtain ⟨e3,f3,rfl⟩:=owns_slice hP.item;obtain ⟨t1,t2,W8,hW,tT,tR,tB⟩:=two_boxes w7 n cn #[.int .i64 p,.slice e1 ll.length f1,.slice e2 lj.length f2,.slice e3 li.length f3] HC.out;have hb8:=hb7.trans (tB.mono hb7.size);have HS8:=HS.out.later hb8;clear h1 hT1 x0 x1 x2 x3 hP tB hb7 hb8 HS;go_upto_region 5 with (first | (show wpList _ _ _ ({dst:=_,op:=Op.store 54 _ _,type:=_,pos:=_,after:=_,guard:=_}::_) _ _;refine stTc t1 HC.out rfl _ _ rfl rfl rfl ?_) | (show wpList _ _ _ ({dst:=_,op:=Op.store 78 _ _,type:=_,pos:=_,after:=_,guard:=_}::_) _ _;refine stRw infoRk (cs:=rkz) rkz_size t2 _ rfl (rk_one _ _ _ _ _ _ _ _ _ _) rfl _ _ rfl rfl rfl ?_))
  clear t1 t2 hW;generalize w7.heap.size=T at *;have hK:=HS8.re;have h9:=HS8.set n;rw [HC.out] at h9;have HB9:Hid (TrAt (W8.setRow K cn) K n∧Below w.heap.size w (W8.setRow K cn)):=⟨h9.re,h9.bel⟩;clear HS8 h9;go_wp2_with (first | (show wpList _ _ _ ({dst:=_,op:=Op.load 54 _,type:=_,pos:=_,after:=_,guard:=_}::_) _ _;refine rdT tT HC.out _ rfl rfl rfl ?_) | (show wpList _ _ _ ({dst:=_,op:=Op.store 54 _ _,type:=_,pos:=_,after:=_,guard:=_}::_) _ _;refine stTc hK HC.out rfl _ _ rfl rfl rfl ?_))
  refine bodyPost_ret (results_te (p:=4) (t:=5) rfl _ _ K n rfl HB9.out.1) rfl ?_;exact ⟨by rw [HQ.out.1,HQ.out.2];rfl,HB9.out.2⟩
 ·have hd:(E !=0)=true:=by simpa using h0
  have HQ:Hid (bhT t X=tz 0∧bhE t X=E):=HN.out h0;have hK:=HS.out.re;have h9:=HS.out.set (tz 0);rw [HZ.out] at h9;have HB9:Hid (TrAt (w6.setRow K cz) K (tz 0)∧Below w.heap.size w (w6.setRow K cz)):=⟨h9.re,h9.bel⟩;clear HY HN HPL rl rj hR h9 HS h0;go_wp2_with (first | (show wpList _ _ _ ({dst:=_,op:=Op.build 54 _,type:=_,pos:=_,after:=_,guard:=_}::_) _ _;refine bzc HZ.out rfl rfl ?_) | (show wpList _ _ _ ({dst:=_,op:=Op.store 54 _ _,type:=_,pos:=_,after:=_,guard:=_}::_) _ _;refine stTc hK HZ.out rfl _ _ rfl rfl rfl ?_))
  refine bodyPost_ret (results_te (p:=4) (t:=5) rfl _ _ K (tz 0) rfl HB9.out.1) rfl ?_;exact ⟨by rw [HQ.out.1,HQ.out.2];rfl,HB9.out.2⟩
set_option maxHeartbeats 1000000 in
theorem replayed_any (a:Option Addr) (cap:Nat) (l:List ByteArray) (t:Tr) (w:World) (hTb:Tb w) (hr:rpy stT l=some t) (hrd:Jr.Dk.RdS w a l) (hsz:∀X∈l,X.size≤5865) (hl:l.length≤2048):
  Calls Tryz.prog 83 #[.slice a l.length cap] w fun e w'=>e=.returned (.tuple #[.agg (tcs t),.nilIface])∧Below w.heap.size w w':=by
 obtain ⟨n,hn⟩:∃n,l.length=n:=⟨_,rfl⟩;have HRP:Hid (rpy stT l=some t):=hr
 have HRD:Hid (∀W,Below w.heap.size w W→∀k,k<n→∃b o,a=some ⟨b,o,none⟩∧W.cell? ⟨b,o+k,none⟩=some (.string (l.getD k ⟨#[]⟩))):=fun W hW k hk=>by
  obtain ⟨b,o,e,c⟩:=hrd k (by omega);exact ⟨b,o,e,cell_later hW c⟩
 have HSZ:Hid (∀k,k<n→(l.getD k ⟨#[]⟩).size≤5865):=fun k hk=>by
  rw [List.getD_eq_getElem?_getD,List.getElem?_eq_getElem (by omega)];exact hsz _ (List.getElem_mem _)
 have HTK:Hid (∀k,k<n→∃v,rpy stT (l.take k)=some v∧bhE v (l.getD k ⟨#[]⟩)=0∧rpy stT (l.take (k+1))=some (bhT v (l.getD k ⟨#[]⟩))):=fun k hk=>rpy_take hr k (by omega)
 have HLT:Hid (l.take n=l):=by rw [←hn];exact List.take_length
 have HTB:Hid (Tb w):=hTb;obtain ⟨c0,hc0⟩:∃c,tcs stT=c:=⟨_,rfl⟩;have HC0:Hid (tcs stT=c0):=hc0;rw [hn] at hl ⊢;have hK:=TrAt.new w (tz 0);have hbK:=below_alloc w (.cells (tcs (tz 0)) 54);rw [←zero236] at hK hbK;clear hr hrd hsz hTb hc0 hn;go_enter Tryz.func83,Tryz.ntmps83;go_upto_region 1 with (fail)
 obtain ⟨K,hKe⟩:∃K,w.heap.size=K:=⟨_,rfl⟩;have HKE:Hid (w.heap.size=K):=hKe;rw [hKe] at hK ⊢;clear hKe;generalize w.alloc (.cells Tryz.zeroCells54 54)=w1 at *;have hst:=start_any w1;rw [HC0.out] at hst;go_wp2_with fail
 refine hst.mono ?_;rintro r w2 ⟨rfl,hb2⟩;obtain ⟨z1,W3,hW3,hT3,hB3⟩:=one_box w2 stT c0 HC0.out
 have HS0:Hid (SB w W3 w2.heap.size K stT (tz 0)):=by
  have hb12:=hbK.trans (hb2.mono hbK.size);have hK2:=(hK.later hb2).later hB3;have h9:=hK.lt;have h8:=hb2.size;exact ⟨hT3,hK2,hb12.trans (hB3.mono hb12.size),by have:=HKE.out;omega,hb12.size,by have:=HKE.out;omega⟩
 clear hst hb2 hB3 hT3 hK hbK;go_upto_region 2 with (show wpList _ _ _ ({dst:=_,op:=Op.store 54 _ _,type:=_,pos:=_,after:=_,guard:=_}::_) _ _;refine stTc z1 HC0.out rfl _ _ rfl rfl rfl ?_)
 try rw [hW3]
 clear z1 hW3;generalize w2.heap.size=B at *;go_wp2_with fail
 go_loopw [12] (fun i wx=>∃(k:Nat) (u:Tr),k≤n∧i=.int .i64 (k:Int)∧rpy stT (l.take k)=some u∧SB w wx B K u (tz 0)) (fun i _=>n - (intOf i).toNat)
 case atStart=>exact ⟨0,stT,by omega,rfl,rfl,HS0.out⟩
 case round=>
  obtain ⟨k,u,hk,rfl,hru,hs⟩:=hrel;have HS:Hid (SB w wr B K u (tz 0)):=hs;have HRU:Hid (rpy stT (l.take k)=some u):=hru;clear hs hru HS0;by_cases hkn:k<n
  ·obtain ⟨b,o,ea,hc⟩:=HRD.out wr HS.out.bel k hkn;subst ea;obtain ⟨v,q1,q2,q3⟩:=HTK.out k hkn;obtain rfl:v=u:=by rw [HRU.out] at q1;cases q1;rfl
   have hz:=HSZ.out k hkn;have i1:(0:Int)≤(k:Int):=by omega
   have i2:(k:Int)<(n:Int):=by omega
   have h1:=behind_any v (l.getD k ⟨#[]⟩) wr (HTB.out.later HS.out.bel) (by omega);rw [q2] at h1;obtain ⟨X,hX⟩:∃X,l.getD k ⟨#[]⟩=X:=⟨_,rfl⟩;rw [hX] at hc h1 q3;obtain ⟨m,hm⟩:∃m,bhT v X=m:=⟨_,rfl⟩;obtain ⟨cm,hcm⟩:∃c,tcs m=c:=⟨_,rfl⟩;obtain ⟨cv,hcv⟩:∃c,tcs v=c:=⟨_,rfl⟩;rw [hm,hcm,hcv] at h1;rw [hm] at q3;have HCM:Hid (tcs m=cm):=hcm;have HCV:Hid (tcs v=cv):=hcv;have HQ:Hid (rpy stT (l.take (k+1))=some m):=q3;have hT:=HS.out.tr;clear q1 q2 q3 hX hm hcm hcv hz;go_wp2_with (show wpList _ _ _ ({dst:=_,op:=Op.load 54 _,type:=_,pos:=_,after:=_,guard:=_}::_) _ _;refine rdT hT HCV.out _ rfl rfl rfl ?_)
   refine h1.mono ?_;rintro r w4 ⟨rfl,hb4⟩;obtain ⟨z1,W5,hW5,hT5,hB5⟩:=one_box w4 m cm HCM.out;have hb45:=hb4.trans (hB5.mono hb4.size);have HS5:=HS.out.later hb45;clear h1 hT hb4 hB5 hb45 hc HS;go_upto_region 6 with (show wpList _ _ _ ({dst:=_,op:=Op.store 54 _ _,type:=_,pos:=_,after:=_,guard:=_}::_) _ _;refine stTc z1 HCM.out rfl _ _ rfl rfl rfl ?_)
   try rw [hW5]
   clear z1 hW5;generalize w4.heap.size=M at *;have hB:=HS5.tr;have h9:=HS5.put m;rw [HCM.out] at h9;have HS9:Hid (SB w (W5.setRow B cm) B K m (tz 0)):=h9;clear HS5 h9;go_wp2_with (first | (show wpList _ _ _ ({dst:=_,op:=Op.load 54 _,type:=_,pos:=_,after:=_,guard:=_}::_) _ _;refine rdT hT5 HCM.out _ rfl rfl rfl ?_) | (show wpList _ _ _ ({dst:=_,op:=Op.store 54 _ _,type:=_,pos:=_,after:=_,guard:=_}::_) _ _;refine stTc hB HCM.out rfl _ _ rfl rfl rfl ?_))
   go_roundw
   case rel=>exact ⟨k+1,m,by omega,by go_num,HQ.out,HS9.out⟩
   case measure=>simp [intOf];omega
  ·obtain rfl:k=n:=by omega
   have hd:decide ((k:Int)<(k:Int))=false:=by simp
   obtain rfl:u=t:=by
    have h:=HRU.out;rw [HLT.out,HRP.out] at h;cases h;rfl
   obtain ⟨cu,hcu⟩:∃c,tcs u=c:=⟨_,rfl⟩;have HCU:Hid (tcs u=cu):=hcu;have hT:=HS.out.tr;have hK:=HS.out.re;have h9:=HS.out.set u;rw [hcu] at h9;have HS9:Hid (TrAt (wr.setRow K cu) K u∧Below w.heap.size w (wr.setRow K cu)):=⟨h9.re,h9.bel⟩;clear HS h9 hcu;go_wp2_with (first | (show wpList _ _ _ ({dst:=_,op:=Op.load 54 _,type:=_,pos:=_,after:=_,guard:=_}::_) _ _;refine rdT hT HCU.out _ rfl rfl rfl ?_) | (show wpList _ _ _ ({dst:=_,op:=Op.store 54 _ _,type:=_,pos:=_,after:=_,guard:=_}::_) _ _;refine stTc hK HCU.out rfl _ _ rfl rfl rfl ?_))
   refine bodyPost_ret (results_te (p:=2) (t:=3) rfl _ _ K u rfl HS9.out.1) rfl ?_;exact ⟨rfl,HS9.out.2⟩
open Go.RowKit Go.Extern.Stop Go.Stop Go.Extern
theorem as_nil (t:Value) (w:World):
  Calls Tryz.prog 84 #[.nilIface,t] w fun e w'=>e=.returned (.bool false)∧w'=w:=by
 go_enter Tryz.func84,Tryz.ntmps84;go_wp2
 go_ret;exact ⟨rfl,rfl⟩
theorem ef_valueOfP (t:Addr) (w:World):(ReflectliteValue.unpack (.iface 200 (.pointer (some t)))).run Tryz.prog w
  =.ok (.agg #[.pointer (some ⟨5,200,none⟩),.pointer (some ⟨w.heap.size,0,none⟩),.int .u64 150]) (w.alloc (.cells #[.pointer (some t)] 200)):=by kernel_rfl
theorem ef_typeP (a:Addr) (w:World):(ReflectliteValue.methodAny (ReflectliteValue.valueError "reflectlite.Value.Type" 0) (fun t _ _ _=>ReflectliteType.toType t) #[.agg #[.pointer (some ⟨5,200,none⟩),.pointer (some a),.int .u64 150]]).run Tryz.prog w
  =.ok (.iface 312 (.agg #[.pointer (some ⟨5,200,none⟩)])) w:=by kernel_rfl
theorem ef_kindP (w:World):((ReflectliteType.abiMethod fun t=>(fun a:Nat=>Value.int IntKind.u8 (a:Int))<$>Rtype.kind t) #[.pointer (some ⟨5,200,none⟩)]).run Tryz.prog w=.ok (.int .u8 22) w:=by kernel_rfl
theorem ef_kindR (w:World):((ReflectliteType.abiMethod fun t=>(fun a:Nat=>Value.int IntKind.u8 (a:Int))<$>Rtype.kind t) #[.pointer (some ⟨5,198,none⟩)]).run Tryz.prog w=.ok (.int .u8 25) w:=by kernel_rfl
theorem ef_m (z:Sem Value) (f:TypeId→Addr→Nat→Nat→Sem Value) (v:Value):
  ReflectliteValue.method z f #[v]=(do match ←ReflectliteValue.parts v with | none=>z | some (t,a,fl)=>f t a fl (fl%32)):=rfl
theorem ef_partsP (a:Addr) (w:World):(ReflectliteValue.parts (.agg #[.pointer (some ⟨5,200,none⟩),.pointer (some a),.int .u64 150])).run Tryz.prog w=.ok (some (200,a,150)) w:=by kernel_rfl
theorem ef_isNilP (a p:Addr) (W:World) (ha:W.cell? a=some (.pointer (some p))):
  (ReflectliteValue.method (ReflectliteValue.valueError "reflectlite.Value.IsNil" 0) ReflectliteValue.isNil #[.agg #[.pointer (some ⟨5,200,none⟩),.pointer (some a),.int .u64 150]]).run Tryz.prog W=.ok (.bool false) W:=by
 rw [ef_m];simp only [Sem.run_bind,ef_partsP,Result.andThen];simp [ReflectliteValue.isNil,loadVar,isAgg,underlying,Tryz.underlying200,ha,Result.andThen]
theorem ef_elemP (w:World):(ReflectliteType.method ReflectliteType.elem #[.agg #[.pointer (some ⟨5,200,none⟩)]]).run Tryz.prog w=.ok (.iface 312 (.agg #[.pointer (some ⟨5,198,none⟩)])) w:=by kernel_rfl
theorem ef_impl (w:World):(ReflectliteType.relation "Implements" ReflectliteType.implements_ #[.agg #[.pointer (some ⟨5,198,none⟩)],.iface 312 (.agg #[.pointer (some ⟨5,143,none⟩)])]).run Tryz.prog w=.ok (.bool true) w:=by kernel_rfl
theorem ef_typeR (v:Value) (w:World):(ReflectliteType.typeOf #[.iface 198 v]).run Tryz.prog w=.ok (.iface 312 (.agg #[.pointer (some ⟨5,198,none⟩)])) w:=by kernel_rfl
theorem ef_typeW (v:Value) (w:World):(ReflectliteType.typeOf #[.iface 253 v]).run Tryz.prog w=.ok (.iface 312 (.agg #[.pointer (some ⟨5,253,none⟩)])) w:=by kernel_rfl
theorem ef_assR (w:World):(ReflectliteType.relation "AssignableTo" ReflectliteType.assignableTo #[.agg #[.pointer (some ⟨5,198,none⟩)],.iface 312 (.agg #[.pointer (some ⟨5,198,none⟩)])]).run Tryz.prog w=.ok (.bool true) w:=by kernel_rfl
theorem ef_assW (w:World):(ReflectliteType.relation "AssignableTo" ReflectliteType.assignableTo #[.agg #[.pointer (some ⟨5,253,none⟩)],.iface 312 (.agg #[.pointer (some ⟨5,198,none⟩)])]).run Tryz.prog w=.ok (.bool false) w:=by kernel_rfl
theorem ef_valueOfR (e:Int) (w:World):(ReflectliteValue.unpack (.iface 198 (.agg #[.int .i64 e]))).run Tryz.prog w
  =.ok (.agg #[.pointer (some ⟨5,198,none⟩),.pointer (some ⟨w.heap.size,0,none⟩),.int .u64 153]) (w.alloc (.cells #[.int .i64 e] 198)):=by kernel_rfl
theorem ef_elemOf (w:World):(Rtype.elem? 200).run Tryz.prog w=.ok (some 198) w:=by kernel_rfl
theorem ef_mkR (p:Addr) (w:World):(ReflectliteValue.mk 198 p ReflectliteValue.flagAddr).run Tryz.prog w=.ok (.agg #[.pointer (some ⟨5,198,none⟩),.pointer (some p),.int .u64 409]) w:=by kernel_rfl
theorem ef_elemV (a p:Addr) (W:World) (ha:W.cell? a=some (.pointer (some p))):
  (ReflectliteValue.method (ReflectliteValue.valueError "reflectlite.Value.Elem" 0) ReflectliteValue.elem #[.agg #[.pointer (some ⟨5,200,none⟩),.pointer (some a),.int .u64 150]]).run Tryz.prog W
   =.ok (.agg #[.pointer (some ⟨5,198,none⟩),.pointer (some p),.int .u64 409]) W:=by
 rw [ef_m];simp only [Sem.run_bind,ef_partsP,Result.andThen];simp [ReflectliteValue.elem,loadVar,isAgg,underlying,Tryz.underlying200,ha,Result.andThen,ef_elemOf,ef_mkR]
theorem ef_partsRa (a:Addr) (w:World):(ReflectliteValue.parts (.agg #[.pointer (some ⟨5,198,none⟩),.pointer (some a),.int .u64 409])).run Tryz.prog w=.ok (some (198,a,409)) w:=by kernel_rfl
theorem ef_partsR (a:Addr) (w:World):(ReflectliteValue.parts (.agg #[.pointer (some ⟨5,198,none⟩),.pointer (some a),.int .u64 153])).run Tryz.prog w=.ok (some (198,a,153)) w:=by kernel_rfl
theorem ef_direct (w:World):(Rtype.directlyAssignable 198 198).run Tryz.prog w=.ok true w:=by kernel_rfl
theorem ef_s (v x:Value):ReflectliteValue.set #[v,x]=(do
  let (some (dst,a,fl),some (src,b,_)):=(←ReflectliteValue.parts v,←ReflectliteValue.parts x)
   | unsupported (.noEntry "extern/(internal/reflectlite.Value).Set.zeroValue")
  if fl/ReflectliteValue.flagAddr%2==0 then unsupported (.noEntry "extern/(internal/reflectlite.Value).Set.unaddressable")
  let val ←loadVar src b
  if ←Rtype.directlyAssignable dst src then storeVar dst a val
  else if ←Rtype.implements dst src then
   if (←Rtype.kind src)==20 then
    match val with
    | .nilIface=>unsupported (.noEntry "extern/reflectlite: a nil value of one interface type handed on as a value of another")
    | _=>storeVar dst a val
   else storeVar dst a (.iface src val)
  else panicString ("reflectlite.Set: value of type " ++(←Rtype.spelt src)++ " is not assignable to type " ++(←Rtype.spelt dst))
  pure (.tuple #[])):=rfl
theorem ef_load (b:Nat) (e:Int) (W:World) (hb:W.cell? ⟨b,0,none⟩=some (.int .i64 e)):(loadVar 198 ⟨b,0,none⟩).run Tryz.prog W=.ok (.agg #[.int .i64 e]) W:=by
 have hi:(sizeOf 198).run Tryz.prog W=.ok 1 W:=by kernel_rfl
 simp [loadVar,isAgg,underlying,Tryz.underlying198,hi,loadCells,loadCellsFrom,Addr.add,hb,Result.andThen]
theorem ef_set (r b:Nat) (e:Int) (old:Value) (W:World) (hb:W.cell? ⟨b,0,none⟩=some (.int .i64 e)) (ht:W.cell? ⟨r,0,none⟩=some old) (hf:W.frozen? ⟨r,0,none⟩=false):
  (ReflectliteValue.set #[.agg #[.pointer (some ⟨5,198,none⟩),.pointer (some ⟨r,0,none⟩),.int .u64 409],.agg #[.pointer (some ⟨5,198,none⟩),.pointer (some ⟨b,0,none⟩),.int .u64 153]]).run Tryz.prog W
   =.ok (.tuple #[]) (W.setCell ⟨r,0,none⟩ (.int .i64 e)):=by
 rw [ef_s];have hi:(sizeOf 198).run Tryz.prog W=.ok 1 W:=by kernel_rfl
 simp only [Sem.run_bind,ef_partsRa,ef_partsR,Result.andThen];simp [ReflectliteValue.flagAddr,ef_load b e W hb,Result.andThen,ef_direct,storeVar,Value.cells,storeCells,Addr.add,hi];rw [run_store Tryz.prog W ⟨r,0,none⟩ _ _ (by rfl)];simp [ht,hf]
theorem ef_mAss (h:Value) (w:World):(Go.method 576 312 (.agg #[h]) "AssignableTo").run Tryz.prog w=.ok (377,.agg #[h]) w:=by kernel_rfl
theorem ef_mUnw (h x:Value) (w:World):(Go.method 576 253 (.agg #[h,x]) "Unwrap").run Tryz.prog w=.ok (372,.agg #[h,x]) w:=by kernel_rfl
theorem ef_noAs (v:Value) (xT:TypeId) (w:World):(Instr.typeAssert (.iface 253 v) xT 317 true).run Tryz.prog w=.ok (.tuple #[.nilIface,.bool false]) w:=run_typeAssert_lacksB Tryz.underlying317 (by kernel_rfl) (by kernel_rfl) v xT w
theorem ef_unw (v:Value) (xT:TypeId) (w:World):(Instr.typeAssert (.iface 253 v) xT 320 true).run Tryz.prog w=.ok (.tuple #[.iface 253 v,.bool true]) w:=run_typeAssert_hasB Tryz.underlying320 (by kernel_rfl) v xT w
theorem cl_lt {w:World} {a:Addr} {v:Value} (h:w.cell? a=some v):a.block<w.heap.size:=World.block_lt_of_cell? w a h
theorem ca {w:World} {a:Addr} {v:Value} (h:w.cell? a=some v) (o:Obj):(w.alloc o).cell? a=some v:=by rw [World.cell?_alloc_lt _ _ a (cl_lt h)];exact h
theorem ca2 {w:World} {a:Addr} {v:Value} (h:w.cell? a=some v) (o o2:Obj):((w.alloc o).alloc o2).cell? a=some v:=ca (ca h o) o2
theorem fa {w:World} {a:Addr} {v:Value} (h:w.frozen? a=false) (hc:w.cell? a=some v) (o:Obj):(w.alloc o).frozen? a=false:=by rw [World.frozen?_alloc_old _ _ a (Nat.ne_of_lt (cl_lt hc))];exact h
set_option maxHeartbeats 4000000 in
theorem as_two (x:ByteArray) (e:Int) (R q:Nat) (old:Value) (w:World) (hq:w.cell? ⟨q,0,none⟩=some (.pointer (some ⟨R,0,none⟩))) (ht0:w.cell? ⟨R,0,none⟩=some old) (hf0:w.frozen? ⟨R,0,none⟩=false):
  Calls Tryz.prog 133 #[.iface 253 (.agg #[.string x,.iface 198 (.agg #[.int .i64 e])]),.iface 200 (.pointer (some ⟨R,0,none⟩)),.agg #[.pointer (some ⟨5,200,none⟩),.pointer (some ⟨q,0,none⟩),.int .u64 150],.iface 312 (.agg #[.pointer (some ⟨5,198,none⟩)])] w
   fun ev w'=>ev=.returned (.bool true)∧w'=(((w.alloc (.cells #[.pointer (some ⟨5,200,none⟩),.pointer (some ⟨q,0,none⟩),.int .u64 150] 259)).alloc (.cells #[.string x,.iface 198 (.agg #[.int .i64 e])] 253)).alloc (.cells #[.int .i64 e] 198)).setCell ⟨R,0,none⟩ (.int .i64 e):=by
 have h1:= @run_callFunc_extern Tryz.prog 186 _ ReflectliteType.typeOf Tryz.func186 (by kernel_rfl) (by kernel_rfl) (by kernel_rfl) (by kernel_rfl);have tW:=ef_typeW;have tR:=ef_typeR;have mA:=ef_mAss;have mU:=ef_mUnw;have aW:=ef_assW;have aR:=ef_assR;have nA:=ef_noAs;have yU:=ef_unw;have h2:= @run_callFunc_extern Tryz.prog 377 _ (ReflectliteType.relation "AssignableTo" ReflectliteType.assignableTo) Tryz.func377 (by kernel_rfl) (by kernel_rfl) (by kernel_rfl) (by kernel_rfl);have h3:= @run_callFunc_extern Tryz.prog 130 _ (fun args=>ReflectliteValue.unpack (args.getD 0 (.tuple #[]))) Tryz.func130 (by kernel_rfl) (by kernel_rfl) (by kernel_rfl) (by kernel_rfl);have h4:= @run_callFunc_extern Tryz.prog 187 _ (ReflectliteValue.method (ReflectliteValue.valueError "reflectlite.Value.Elem" 0) ReflectliteValue.elem) Tryz.func187 (by kernel_rfl) (by kernel_rfl) (by kernel_rfl) (by kernel_rfl);have h5:= @run_callFunc_extern Tryz.prog 188 _ ReflectliteValue.set Tryz.func188 (by kernel_rfl) (by kernel_rfl) (by kernel_rfl) (by kernel_rfl);have vR:=ef_valueOfR;have el:=ef_elemV ⟨q,0,none⟩ ⟨R,0,none⟩ ((w.alloc (.cells #[.pointer (some ⟨5,200,none⟩),.pointer (some ⟨q,0,none⟩),.int .u64 150] 259)).alloc (.cells #[.string x,.iface 198 (.agg #[.int .i64 e])] 253)) (ca2 hq _ _)
 have st:=ef_set R (w.heap.size+1+1) e old (((w.alloc (.cells #[.pointer (some ⟨5,200,none⟩),.pointer (some ⟨q,0,none⟩),.int .u64 150] 259)).alloc (.cells #[.string x,.iface 198 (.agg #[.int .i64 e])] 253)).alloc (.cells #[.int .i64 e] 198))
  (by rw [World.cell?_alloc_at _ _ _ _ (by simp)];rfl) (ca (ca2 ht0 _ _) _) (fa (fa (fa hf0 ht0 _) (ca ht0 _) _) (ca2 ht0 _ _) _)
 go_enter Tryz.func133,Tryz.ntmps133;go_wp2
 refine wp_loop_rounds 2 ?_;rw [rounds_succ];go_wp2
 rw [rounds_succ];go_wp2
 go_ret;exact ⟨rfl,rfl⟩
end Go.Proofs.YtoimkngkcliinaaGreatDoor
