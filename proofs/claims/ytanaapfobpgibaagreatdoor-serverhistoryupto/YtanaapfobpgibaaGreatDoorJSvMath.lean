/- SvMath, SvA, SvC, SvE, SvF, joined. -/
import Derived.Test.YtanaapfobpgibaaGreatDoorJRcN
import Derived.Test.YtanaapfobpgibaaGreatDoorJWiPf1
import Derived.Stop.Asserts
open Go.Proofs.Tryz
set_option maxHeartbeats 4000000
namespace Go.Proofs.YtanaapfobpgibaaGreatDoor
open Go.RowKit Go.Maps Rc
open Jr (recs eO np cY ba)
open Jr.Dk (ij)
open Bt (tb bA)
set_option linter.unusedVariables false
set_option maxRecDepth 4000
set_option linter.unusedSimpArgs false
variable {t:Tr} {J L:List Int}
def xR (t:Tr) (X:ByteArray):Int:=if xZ (tb (bA X)) then gU t (kN (tb (bA X))) (kM (tb (bA X))) (jh (tb (bA X))) (n_ (tb (bA X))) else 12
def yj (t:Tr) (X:ByteArray):Tr:=if xZ (tb (bA X)) then CH t (kN (tb (bA X))) (kM (tb (bA X))) (jh (tb (bA X))) (n_ (tb (bA X))) else tz 0
def vu:Tr→List ByteArray→Option Tr
 | t,[]=>some t
 | t,X::l=>if xR t X=0 then vu (yj t X) l else none
theorem Cv:∀{l:List ByteArray} {t u:Tr} {X:ByteArray},vu t l=some u→xR u X=0→vu t (l++[X])=some (yj u X)
 | [],t,u,X,h,h2=>by
  cases h
  show (if xR t X=0 then vu (yj t X) [] else none)=_
  rw [if_pos h2];rfl
 | Y::l,t,u,X,h,h2=>by
  have h1:(if xR t Y=0 then vu (yj t Y) l else none)=some u:=h;by_cases e:xR t Y=0
  ·rw [if_pos e] at h1;show (if xR t Y=0 then vu (yj t Y) (l++[X]) else none)=_
   rw [if_pos e];exact Cv h1 h2
  ·rw [if_neg e] at h1;cases h1
/- The prefixes of a row that leads somewhere. -/
theorem Cu:∀{l:List ByteArray} {t u:Tr},vu t l=some u→∀k,k<l.length→∃v,vu t (l.take k)=some v∧xR v (l.getD k ⟨#[]⟩)=0∧vu t (l.take (k+1))=some (yj v (l.getD k ⟨#[]⟩))
 | [],t,u,h,k,hk=>by cases hk
 | Y::l,t,u,h,k,hk=>by
  have h1:(if xR t Y=0 then vu (yj t Y) l else none)=some u:=h;by_cases e:xR t Y=0
  ·rw [if_pos e] at h1
   cases k with
   | zero=>exact ⟨t,rfl,e,by show (if xR t Y=0 then vu (yj t Y) [] else none)=_;rw [if_pos e];rfl⟩
   | succ k=>
    obtain ⟨v,a,b,c⟩:=Cu h1 k (by simpa using hk);refine ⟨v,?_,b,?_⟩
    ·show (if xR t Y=0 then vu (yj t Y) (l.take k) else none)=_
     rw [if_pos e];exact a
    ·show (if xR t Y=0 then vu (yj t Y) (l.take (k+1)) else none)=_
     rw [if_pos e];exact c
  ·rw [if_neg e] at h1;cases h1
theorem lO (h:b_ t L J=0):(lg t (L,J)).size≤181:=by
 have h1:=Ch h;have h2:=SR h1;rw [sM] at h2;have h3:=ie.1 h1;have h4:=h3.l1;have h5:=h3.j1;unfold lg;dsimp only;omega
theorem aaT (h:b_ t L J=0):xR t (lg t (L,J))=0∧yj t (lg t (L,J))=cZ t L J:=by
 obtain ⟨a,b,c,d,e⟩:=aaq (Ch h);obtain ⟨p,q,-⟩:=N6 h;unfold xR yj lg;dsimp only;rw [a,b,c,d,e];exact ⟨p,q⟩
theorem CM {n:Nat} (h:n≤181):1≤np n∧np n≤8:=by
 obtain ⟨-,h1,-,-,h4⟩:=cY n (by omega);omega
/- Records that lead from the beginning to a tree, as steps' own records do. -/
structure oD (ps:List ByteArray) (t:Tr):Prop where
 rp:vu j6 ps=some t
 ep:t.ep=(ps.length:Int)
 le:(recs 1 ps).length≤8 * ps.length
theorem oD.nil:oD [] j6:=⟨rfl,rfl,Nat.zero_le _⟩
theorem oD.snoc {ps:List ByteArray} (h:oD ps t) (h0:b_ t L J=0):oD (ps++[lg t (L,J)]) (cZ t L J)∧ps.length≤199:=by
 obtain ⟨a,b⟩:=aaT h0;obtain ⟨c,d,e⟩:=VZ h0;have h1:=h.ep;refine ⟨⟨by rw [Cv h.rp a,b],by rw [c,h1];simp,?_⟩,by omega⟩;have:=(CM (lO h0)).2;have h2:=h.le;rw [ij,List.length_append,ba,List.length_append,List.length_singleton];omega
/- There is room for it. -/
theorem oD.room {ps:List ByteArray} (h:oD ps t) (h0:b_ t L J=0):(lg t (L,J)).size≤5865∧¬(2048<(recs 1 ps).length+np (lg t (L,J)).size∨65535≤ps.length):=by
 have h1:=(h.snoc h0).2;have h2:=h.le;have h3:=lO h0;have h4:=(CM h3).2;omega
open Go.RowKit Go.Maps
open Jr.Dk (ib Jn St Dk bG)
open Wi (upd uy uz aQ z7 mB MT stM)
variable {w w':World} {S:Nat}
def svl (p j:Nat) (t:Tr) (d:Bool):List Value:=[.pointer (some ⟨p,0,none⟩),.pointer (some ⟨j,0,none⟩)]++((aC t).toList++[.bool d])
def Hv (p j:Nat) (t:Tr) (d:Bool):Array Value:=(svl p j t d).toArray
def ia (w:World) (S p j:Nat) (t:Tr) (d:Bool):Prop:=w.heap[S]? =some (.cells (Hv p j t d) 94 (0,0))
section
variable {w w':World} {S p j:Nat} {t:Tr} {d:Bool}
theorem iT (t:Tr):(aC t).toList.length=236:=by rw [Array.length_toList,aZ]
theorem M4:(Hv p j t d).size=239:=by
 have:=iT t;simp [Hv,svl]
theorem XI {i:Nat} (hi:i<236):(Hv p j t d)[2+i]? =(aC t)[i]? :=by
 have:=iT t;unfold Hv svl;rw [List.getElem?_toArray,List.getElem?_append_right (by simp),List.getElem?_append_left (by simp;omega)];simp
theorem S':(Hv p j t d)[238]? =some (.bool d):=by
 have:=iT t;unfold Hv svl;rw [List.getElem?_toArray,List.getElem?_append_right (by simp),List.getElem?_append_right (by simp)];simp
theorem ia.cells (h:ia w S p j t d):w.cell? ⟨S,0,none⟩=some (.pointer (some ⟨p,0,none⟩))∧w.cell? ⟨S,1,none⟩=some (.pointer (some ⟨j,0,none⟩))∧w.cell? ⟨S,238,none⟩=some (.bool d):=
 ⟨(cell_of_row w S _ _ _ _ h).trans rfl,(cell_of_row w S _ _ _ _ h).trans rfl,(cell_of_row w S _ _ _ _ h).trans S'⟩
theorem ia.later (h:ia w S p j t d) (hb:Below w.heap.size w w'):ia w' S p j t d:=aQ h hb
theorem ia.tree (h:ia w S p j t d):(Instr.loadAt 39 (.pointer (some ⟨S,2,none⟩))).run prog w=.ok (.agg (aC t)) w:=
 jx h underlying39 rfl jz 2 (aZ t) fun j hj=>XI hj
theorem p8:∀(l2' l1 l2 l3:List Value),l2.length=l2'.length→upd (l1++(l2++l3)).toArray l1.length l2'=(l1++(l2'++l3)).toArray
 | [],l1,l2,l3,h=>by
  have:l2=[]:=List.length_eq_zero_iff.1 h;subst this;rfl
 | v::r,l1,[],l3,h=>by cases h
 | v::r,l1,x::l2,l3,h=>by
  rw [upd]
  have e:(l1++(x::l2++l3)).toArray.setIfInBounds l1.length v=((l1++[v])++(l2++l3)).toArray:=by
   rw [List.setIfInBounds_toArray];simp
  have:=p8 r (l1++[v]) l2 l3 (by simpa using h);rw [List.length_append,List.length_singleton] at this;rw [e,this];simp
theorem ia.set (h:ia w S p j t d) (n:Tr):ia (w.setCells S 2 (aC n).toList) S p j n d:=by
 have h1:=uy (aC n).toList 2 h;have e:=p8 (aC n).toList [.pointer (some ⟨p,0,none⟩),.pointer (some ⟨j,0,none⟩)] (aC t).toList [.bool d] (by rw [iT,iT]);unfold ia;rw [h1];unfold Hv svl;rw [show ([Value.pointer (some ⟨p,0,none⟩),Value.pointer (some ⟨j,0,none⟩)]:List Value).length=2 from rfl] at e;rw [e]
theorem Th (A:List Value) (x y:Value):(A++[x]).toArray.setIfInBounds A.length y=(A++[y]).toArray:=by
 rw [List.setIfInBounds_toArray];simp
theorem ia.die (h:ia w S p j t d):ia (w.setCell ⟨S,238,none⟩ (.bool true)) S p j t true:=by
 have h1:=uz h 238 (.bool true);have e:=Th ([Value.pointer (some ⟨p,0,none⟩),Value.pointer (some ⟨j,0,none⟩)]++(aC t).toList) (.bool d) (.bool true);have hl:([Value.pointer (some ⟨p,0,none⟩),Value.pointer (some ⟨j,0,none⟩)]++(aC t).toList).length=238:=by rw [List.length_append,iT];rfl
 rw [hl] at e;unfold ia;rw [h1];unfold Hv svl;rw [←List.append_assoc,e,List.append_assoc]
end
theorem rdS {ops:Array Oper} {rest:List Oper} {o:Oper} {a:Act} {Q:Exit→Act→World→Prop} {p j:Nat} {t:Tr} {d:Bool} {c:Array Value} (h:ia w S p j t d) (hc:aC t=c) (x:Operand) (ho:o.op=.load 39 x)
  (hx:a.eval x=.pointer (some ⟨S,2,none⟩)) (hw:Region.wanted o (yielded ops a.tmps)=true) (k:wpList prog ops Q rest (a.put o.dst (.agg c)) w):wpList prog ops Q (o::rest) a w:=
 fe hw (bB (hc ▸ h.tree) ho hx) k
/- Where the server's block alone is written to. -/
theorem lQ (S:Nat):∀(vs:List Value) (o:Nat) {a w:World},Jr.Dk.Kept (fun k=>k=S) a w→Jr.Dk.Kept (fun k=>k=S) a (w.setCells S o vs)
 | [],o,a,w,h=>h
 | v::r,o,a,w,h=>by
  rw [World.setCells];exact lQ S r (o+1) (h.setCell (p:=⟨S,o,none⟩) (fun _=>rfl) v)
section
variable {N:Nat} {w0 w w':World} {p S j q c a:Nat} {s:St} {d:Bool} {cs:Array Value} {fz:Nat×Nat}
theorem Dw (h:ib N w0 w p s) (hS:w.heap[S]? =some (.cells cs 94 fz)) (hN:N≤S) (hk:Jr.Dk.Kept (fun k=>k=S) w w'):ib N w0 w' p s:=by
 obtain ⟨⟨b,m,x,dk⟩,g1,g2⟩:=h;refine ⟨⟨b,m,x,dk.kept hk (fun k hF hv=>?_)⟩,Jr.Dk.Bq g1 hk (fun i hi=>by cases hi;exact hN) g2,Nat.le_trans g2 hk.size⟩;cases hv
 exact dk.OE hS (by decide) (by decide) hF
theorem C7 (h:Jn w j q c a d) (hS:w.heap[S]? =some (.cells cs 94 fz)) (hk:Jr.Dk.Kept (fun k=>k=S) w w'):Jn w' j q c a d:=by
 refine (hk.block j h.lt (fun e=>?_)).trans h;subst e;unfold Jn at h;rw [hS] at h;cases h
end
/- What stays while disk, journal and server are written to. -/
def b5 (w w':World):Prop:=∀(k:Nat) (cs:Array Value) (t:TypeId) (fz:Nat×Nat),w.heap[k]? =some (.cells cs t fz)→t≠81→t≠89→t≠160→t≠94→w'.heap[k]? =some (.cells cs t fz)
theorem b5.ofT (h:bG w w'):b5 w w':=fun k cs t fz e h1 h2 h3 _=>h k cs t fz e h1 h2 h3
theorem b5.bb {w w':World} (h:Below w.heap.size w w'):b5 w w':=.ofT (bG.bb h)
theorem b5.trans {a b c:World} (h:b5 a b) (g:b5 b c):b5 a c:=fun k cs t fz e h1 h2 h3 h4=>g k cs t fz (h k cs t fz e h1 h2 h3 h4) h1 h2 h3 h4
theorem b5.Ov {ds:Array Value} {f2:Nat×Nat} (hS:w.heap[S]? =some (.cells ds 94 f2)) (hk:Jr.Dk.Kept (fun k=>k=S) w w'):b5 w w':=fun k cs t fz e h1 h2 h3 h4=>by
 refine (hk.block k (mB e) (fun e2=>?_)).trans e;subst e2;rw [hS] at e;cases e
 exact h4 rfl
open Rs (bM cell_later ps Tb cq ar ah)
theorem pg {fn:Func} {p t:Tmp} (hf:fn.results=#[.cell p 39,.tmp t]) (tmps:Array Value) (W:World) (K:Nat) (u:Tr) (hp:tmps[p]? =some (.pointer (some ⟨K,0,none⟩))) (hk:az W K u):
  (results fn tmps).run prog W=.ok (.tuple #[.agg (aC u),tmps.getD t undef]) W:=by
 have h:=run_loadVar_row W K _ 39 _ _ _ hk underlying39 rfl (by rw [aZ];exact jz);simp [results,hf,hp,asAddr,h]
theorem uE (w:World) (u:Tr) (c:Array Value) (hc:aC u=c):az (w.alloc (.cells zeroCells39 39)) w.heap.size (tz 0)∧∃W,(w.alloc (.cells zeroCells39 39)).setRow w.heap.size c=W∧az W w.heap.size u∧Below w.heap.size w W:=by
 subst hc;rw [fu];have h1:=az.new w (tz 0);exact ⟨h1,_,rfl,Rt.ai h1 (aC u),Rt.ag (Nat.le_refl _) (aa w _) _⟩
/- The tree, boxed, and the answer's place. -/
structure SB (w W:World) (B K:Nat) (t u:Tr):Prop where
 tr:az W B t
 re:az W K u
 aK:Below w.heap.size w W
 ge:w.heap.size≤K
 gb:w.heap.size≤B
 ne:B≠K
section
variable {w W W':World} {B K:Nat} {t u:Tr}
theorem SB.later (h:SB w W B K t u) (hb:Below W.heap.size W W'):SB w W' B K t u:=⟨h.tr.later hb,h.re.later hb,h.aK.trans (hb.mono h.aK.size),h.ge,h.gb,h.ne⟩
theorem SB.set (h:SB w W B K t u) (n:Tr):SB w (W.setRow K (aC n)) B K t n:=⟨(Rt.aq h.ne _).trans h.tr,Rt.ai h.re _,Rt.ag h.ge h.aK _,h.ge,h.gb,h.ne⟩
theorem SB.put (h:SB w W B K t u) (n:Tr):SB w (W.setRow B (aC n)) B K n u:=⟨Rt.ai h.tr _,(Rt.aq (Ne.symm h.ne) _).trans h.re,Rt.ag h.gb h.aK _,h.ge,h.gb,h.ne⟩
theorem SB.new (w:World) (t:Tr):SB w ((w.alloc (.cells (aC t) 39)).alloc (.cells zeroCells39 39)) w.heap.size (w.heap.size+1) t (tz 0):=by
 rw [fu];have h1:=az.new w t;have b1:=cG w t;have s1:(w.alloc (.cells (aC t) 39)).heap.size=w.heap.size+1:=World.size_alloc _ _;have h2:=az.new (w.alloc (.cells (aC t) 39)) (tz 0);have b2:=cG (w.alloc (.cells (aC t) 39)) (tz 0);rw [s1] at h2;exact ⟨h1.later b2,h2,b1.trans (b2.mono b1.size),by omega,by omega,by omega⟩
end
theorem Tz (X:ByteArray):(Mc (tb (bA X))).length≤128∧(Md (tb (bA X))).length≤128:=by
 have h:=XT (tb (bA X));have h1:=h.l1;have h2:=h.j1;unfold Mc Md;constructor <;> split <;> first | omega | simp
theorem GW (t:Tr) (X:ByteArray) (w:World) (sD:Tb w) (hX:X.size<1125899906842624):
  Calls prog 64 #[.agg (aC t),.string X] w fun r w'=>r=.returned (.tuple #[.agg (aC (yj t X)),.int .i64 (xR t X)])∧Below w.heap.size w w':=by
 have hRD:=fun W=>gj X W hX
 obtain ⟨hL1,hJ1⟩:=Tz X;have UF:=fun W (hW:Below w.heap.size w W) a b k m (ha:bM W a (Mc (tb (bA X)))) (hb:oQ W b (Md (tb (bA X))))=>N7 t (VU (tb (bA X))) (VT (tb (bA X))) a b k m (Mc (tb (bA X))) (Md (tb (bA X))) W (sD.later hW) ha hb (by omega) (by omega)
 unfold ra at hRD;unfold mg at UF;have hS:=SB.new w t
 have HN:Hid (Tw (tb (bA X))≠0→yj t X=tz 0∧xR t X=Tw (tb (bA X))):=fun h=>by
  unfold Tw at h ⊢;unfold yj xR
  cases hk:xZ (tb (bA X)) with
  | true=>rw [hk] at h;exact absurd rfl h
  | false=>exact ⟨rfl,rfl⟩
 have HY:Hid (Tw (tb (bA X))=0→yj t X=CH t (VU (tb (bA X))) (VT (tb (bA X))) (Mc (tb (bA X))) (Md (tb (bA X)))∧xR t X=gU t (VU (tb (bA X))) (VT (tb (bA X))) (Mc (tb (bA X))) (Md (tb (bA X)))):=fun h=>by
  unfold Tw at h
  cases hk:xZ (tb (bA X)) with
  | false=>rw [hk] at h;cases h
  | true=>
   unfold yj xR VU VT Mc Md;rw [hk];exact ⟨rfl,rfl⟩
 obtain ⟨E,hE⟩:∃e,Tw (tb (bA X))=e:=⟨_,rfl⟩;obtain ⟨ep,BO⟩:∃e,VU (tb (bA X))=e:=⟨_,rfl⟩;obtain ⟨fr,wO⟩:∃e,VT (tb (bA X))=e:=⟨_,rfl⟩;obtain ⟨L,hL⟩:∃l,Mc (tb (bA X))=l:=⟨_,rfl⟩;obtain ⟨J,hJ⟩:∃l,Md (tb (bA X))=l:=⟨_,rfl⟩;rw [hE,BO,wO,hL,hJ] at hRD HY;rw [hE] at HN;simp only [BO,wO,hL,hJ] at UF;rw [hL] at hL1;rw [hJ] at hJ1;clear hE BO wO hL hJ sD hX;obtain ⟨n,hn⟩:∃n,CH t ep fr L J=n:=⟨_,rfl⟩;obtain ⟨p,hp⟩:∃n,KQ t ep fr L J=n:=⟨_,rfl⟩;obtain ⟨E2,oz⟩:∃n,gU t ep fr L J=n:=⟨_,rfl⟩;obtain ⟨ll,pI⟩:∃n,KR t ep fr L J=n:=⟨_,rfl⟩;obtain ⟨lj,mi⟩:∃n,KS t ep fr L J=n:=⟨_,rfl⟩;obtain ⟨li,rv⟩:∃n,KT t ep fr L J=n:=⟨_,rfl⟩;obtain ⟨cn,f_⟩:∃c,aC n=c:=⟨_,rfl⟩;obtain ⟨ct,bQ⟩:∃c,aC t=c:=⟨_,rfl⟩;obtain ⟨cz,fW⟩:∃c,aC (tz 0)=c:=⟨_,rfl⟩;rw [hn,oz] at HY;simp only [hn,hp,oz,pI,mi,rv,f_,bQ] at UF;have HC:Hid (aC n=cn):=f_;have HT:Hid (aC t=ct):=bQ;have HZ:Hid (aC (tz 0)=cz):=fW;have Mo:Hid _:=UF;clear hn hp oz pI mi rv f_ bQ fW UF;go_enter func64,ntmps64;go_upto_region 1 with (fail)
 obtain ⟨K,hK⟩:∃K,w.heap.size+1=K:=⟨_,rfl⟩;obtain ⟨B,hB⟩:∃K,w.heap.size=K:=⟨_,rfl⟩;rw [hK,hB] at hS;rw [hK,hB];clear hK hB;generalize (w.alloc (.cells (aC t) 39)).alloc (.cells zeroCells39 39)=w1 at *;have HS:Hid (SB w w1 B K t (tz 0)):=hS;have h1:=hRD w1;clear hRD hS;go_wp2_with fail
 refine h1.mono ?_;rintro r u5 ⟨vL,vJ,rfl,g1,g2,hb2⟩;obtain ⟨a6,k6,rfl⟩:=ah g1;obtain ⟨a7,k7,rfl⟩:=ah g2;have IZ:=aa u5 (.cells #[.int .i64 ep,.int .i64 fr,.slice a6 L.length k6,.slice a7 J.length k7] 70);have hR:=bh.new u5 #[.int .i64 ep,.int .i64 fr,.slice a6 L.length k6,.slice a7 J.length k7];have rl:=(vC g1).later IZ;have rj:=(rT g2).later IZ;have hb3:=hb2.trans (IZ.mono hb2.size);have JT:=HS.out.later hb3;clear h1 g1 g2 hb2 IZ HS;go_upto_region 2 with (fail)
 generalize u5.alloc (.cells #[.int .i64 ep,.int .i64 fr,.slice a6 L.length k6,.slice a7 J.length k7] 70)=w6 at *;generalize u5.heap.size=R at *;have HS:Hid (SB w w6 B K t (tz 0)):=JT;clear JT hb3;by_cases h0:E=0
 ·subst h0;have HQ:Hid (yj t X=n∧xR t X=E2):=HY.out rfl;have h1:=Mo.out w6 HS.out.aK a6 a7 k6 k7 rl rj;have jT:=HS.out.tr;obtain ⟨x0,x1,x2,x3⟩:=hR.cells;clear HY HN Mo rl rj hR;go_wp2_with (show wpList _ _ _ ({dst:=_,op:=Op.load 39 _,type:=_,pos:=_,after:=_,guard:=_}::_) _ _;refine pV jT HT.out _ rfl rfl rfl ?_)
  refine h1.mono ?_;rintro r w7 ⟨⟨vl,vj,vi,rfl,hP⟩,iK⟩;obtain ⟨e1,f1,rfl⟩:=ah hP.left;obtain ⟨e2,f2,rfl⟩:=ah hP.join;obtain ⟨e3,f3,rfl⟩:=ah hP.item;obtain ⟨t1,t2,W8,hW,tT,tR,tB⟩:=cM w7 n cn #[.int .i64 p,.slice e1 ll.length f1,.slice e2 lj.length f2,.slice e3 li.length f3] HC.out;have AQ:=iK.trans (tB.mono iK.size);have Mn:=HS.out.later AQ;clear h1 jT x0 x1 x2 x3 hP tB iK AQ HS;go_upto_region 5 with (first | (show wpList _ _ _ ({dst:=_,op:=Op.store 39 _ _,type:=_,pos:=_,after:=_,guard:=_}::_) _ _;refine eE t1 HC.out rfl _ _ rfl rfl rfl ?_) | (show wpList _ _ _ ({dst:=_,op:=Op.store 54 _ _,type:=_,pos:=_,after:=_,guard:=_}::_) _ _;refine gN cS (cs:=cQ) bw t2 _ rfl (kx _ _ _ _ _ _ _ _ _ _) rfl _ _ rfl rfl rfl ?_))
  clear t1 t2 hW;generalize w7.heap.size=T at *;have hK:=Mn.re;have h9:=Mn.set n;rw [HC.out] at h9;have HB9:Hid (az (W8.setRow K cn) K n∧Below w.heap.size w (W8.setRow K cn)):=⟨h9.re,h9.aK⟩;clear Mn h9;go_wp2_with (first | (show wpList _ _ _ ({dst:=_,op:=Op.load 39 _,type:=_,pos:=_,after:=_,guard:=_}::_) _ _;refine pV tT HC.out _ rfl rfl rfl ?_) | (show wpList _ _ _ ({dst:=_,op:=Op.store 39 _ _,type:=_,pos:=_,after:=_,guard:=_}::_) _ _;refine eE hK HC.out rfl _ _ rfl rfl rfl ?_))
  refine bodyPost_ret (pg (p:=4) (t:=5) rfl _ _ K n rfl HB9.out.1) rfl ?_;exact ⟨by rw [HQ.out.1,HQ.out.2];rfl,HB9.out.2⟩
 ·have hd:(E !=0)=true:=by simpa using h0
  have HQ:Hid (yj t X=tz 0∧xR t X=E):=HN.out h0;have hK:=HS.out.re;have h9:=HS.out.set (tz 0);rw [HZ.out] at h9;have HB9:Hid (az (w6.setRow K cz) K (tz 0)∧Below w.heap.size w (w6.setRow K cz)):=⟨h9.re,h9.aK⟩;clear HY HN Mo rl rj hR h9 HS h0;go_wp2_with (first | (show wpList _ _ _ ({dst:=_,op:=Op.build 39 _,type:=_,pos:=_,after:=_,guard:=_}::_) _ _;refine Jy HZ.out rfl rfl ?_) | (show wpList _ _ _ ({dst:=_,op:=Op.store 39 _ _,type:=_,pos:=_,after:=_,guard:=_}::_) _ _;refine eE hK HZ.out rfl _ _ rfl rfl rfl ?_))
  refine bodyPost_ret (pg (p:=4) (t:=5) rfl _ _ K (tz 0) rfl HB9.out.1) rfl ?_;exact ⟨by rw [HQ.out.1,HQ.out.2];rfl,HB9.out.2⟩
theorem z8 (a:Option Addr) (cap:Nat) (l:List ByteArray) (t:Tr) (w:World) (sD:Tb w) (hr:vu j6 l=some t) (fV:Jr.Dk.iC w a l) (hsz:∀X∈l,X.size≤5865) (hl:l.length≤2048):
  Calls prog 34 #[.slice a l.length cap] w fun e w'=>e=.returned (.tuple #[.agg (aC t),.nilIface])∧Below w.heap.size w w':=by
 obtain ⟨n,hn⟩:∃n,l.length=n:=⟨_,rfl⟩;have HRP:Hid (vu j6 l=some t):=hr
 have Ek:Hid (∀W,Below w.heap.size w W→∀k,k<n→∃b o,a=some ⟨b,o,none⟩∧W.cell? ⟨b,o+k,none⟩=some (.string (l.getD k ⟨#[]⟩))):=fun W hW k hk=>by
  obtain ⟨b,o,e,c⟩:=fV k (by omega);exact ⟨b,o,e,cell_later hW c⟩
 have oF:Hid (∀k,k<n→(l.getD k ⟨#[]⟩).size≤5865):=fun k hk=>by
  rw [List.getD_eq_getElem?_getD,List.getElem?_eq_getElem (by omega)];exact hsz _ (List.getElem_mem _)
 have rA:Hid (∀k,k<n→∃v,vu j6 (l.take k)=some v∧xR v (l.getD k ⟨#[]⟩)=0∧vu j6 (l.take (k+1))=some (yj v (l.getD k ⟨#[]⟩))):=fun k hk=>Cu hr k (by omega)
 have rB:Hid (l.take n=l):=by rw [←hn];exact List.take_length
 have HTB:Hid (Tb w):=sD;obtain ⟨c0,hc0⟩:∃c,aC j6=c:=⟨_,rfl⟩;have R5:Hid (aC j6=c0):=hc0;rw [hn] at hl ⊢;have hK:=az.new w (tz 0);have UB:=aa w (.cells (aC (tz 0)) 39);rw [←fu] at hK UB;clear hr fV hsz sD hc0 hn;go_enter func34,ntmps34;go_upto_region 1 with (fail)
 obtain ⟨K,WC⟩:∃K,w.heap.size=K:=⟨_,rfl⟩;have HKE:Hid (w.heap.size=K):=WC;rw [WC] at hK ⊢;clear WC;generalize w.alloc (.cells zeroCells39 39)=w1 at *;have hst:=Ke w1;rw [R5.out] at hst;go_wp2_with fail
 refine hst.mono ?_;rintro r w2 ⟨rfl,hb2⟩;obtain ⟨z1,W3,hW3,AR,uk⟩:=uE w2 j6 c0 R5.out
 have HS0:Hid (SB w W3 w2.heap.size K j6 (tz 0)):=by
  have m6:=UB.trans (hb2.mono UB.size);have hK2:=(hK.later hb2).later uk;have h9:=hK.lt;have h8:=hb2.size;exact ⟨AR,hK2,m6.trans (uk.mono m6.size),by have:=HKE.out;omega,m6.size,by have:=HKE.out;omega⟩
 clear hst hb2 uk AR hK UB;go_upto_region 2 with (show wpList _ _ _ ({dst:=_,op:=Op.store 39 _ _,type:=_,pos:=_,after:=_,guard:=_}::_) _ _;refine eE z1 R5.out rfl _ _ rfl rfl rfl ?_)
 try rw [hW3]
 clear z1 hW3;generalize w2.heap.size=B at *;go_wp2_with fail
 go_loopw [12] (fun i wx=>∃(k:Nat) (u:Tr),k≤n∧i=.int .i64 (k:Int)∧vu j6 (l.take k)=some u∧SB w wx B K u (tz 0)) (fun i _=>n - (intOf i).toNat)
 case atStart=>exact ⟨0,j6,by omega,rfl,rfl,HS0.out⟩
 case round=>
  obtain ⟨k,u,hk,rfl,hru,hs⟩:=hrel;have HS:Hid (SB w wr B K u (tz 0)):=hs;have HRU:Hid (vu j6 (l.take k)=some u):=hru;clear hs hru HS0;by_cases cE:k<n
  ·obtain ⟨b,o,ea,hc⟩:=Ek.out wr HS.out.aK k cE;subst ea;obtain ⟨v,q1,q2,q3⟩:=rA.out k cE;obtain rfl:v=u:=by rw [HRU.out] at q1;cases q1;rfl
   have hz:=oF.out k cE;have i1:(0:Int)≤(k:Int):=by omega
   have i2:(k:Int)<(n:Int):=by omega
   have h1:=GW v (l.getD k ⟨#[]⟩) wr (HTB.out.later HS.out.aK) (by omega);rw [q2] at h1;obtain ⟨X,hX⟩:∃X,l.getD k ⟨#[]⟩=X:=⟨_,rfl⟩;rw [hX] at hc h1 q3;obtain ⟨m,hm⟩:∃m,yj v X=m:=⟨_,rfl⟩;obtain ⟨cm,hcm⟩:∃c,aC m=c:=⟨_,rfl⟩;obtain ⟨cv,hcv⟩:∃c,aC v=c:=⟨_,rfl⟩;rw [hm,hcm,hcv] at h1;rw [hm] at q3;have HCM:Hid (aC m=cm):=hcm;have HCV:Hid (aC v=cv):=hcv;have HQ:Hid (vu j6 (l.take (k+1))=some m):=q3;have hT:=HS.out.tr;clear q1 q2 q3 hX hm hcm hcv hz;go_wp2_with (show wpList _ _ _ ({dst:=_,op:=Op.load 39 _,type:=_,pos:=_,after:=_,guard:=_}::_) _ _;refine pV hT HCV.out _ rfl rfl rfl ?_)
   refine h1.mono ?_;rintro r w4 ⟨rfl,hb4⟩;obtain ⟨z1,W5,hW5,P5,WH⟩:=uE w4 m cm HCM.out;have abo:=hb4.trans (WH.mono hb4.size);have RM:=HS.out.later abo;clear h1 hT hb4 WH abo hc HS;go_upto_region 6 with (show wpList _ _ _ ({dst:=_,op:=Op.store 39 _ _,type:=_,pos:=_,after:=_,guard:=_}::_) _ _;refine eE z1 HCM.out rfl _ _ rfl rfl rfl ?_)
   try rw [hW5]
   clear z1 hW5;generalize w4.heap.size=M at *;have hB:=RM.tr;have h9:=RM.put m;rw [HCM.out] at h9;have HS9:Hid (SB w (W5.setRow B cm) B K m (tz 0)):=h9;clear RM h9;go_wp2_with (first | (show wpList _ _ _ ({dst:=_,op:=Op.load 39 _,type:=_,pos:=_,after:=_,guard:=_}::_) _ _;refine pV P5 HCM.out _ rfl rfl rfl ?_) | (show wpList _ _ _ ({dst:=_,op:=Op.store 39 _ _,type:=_,pos:=_,after:=_,guard:=_}::_) _ _;refine eE hB HCM.out rfl _ _ rfl rfl rfl ?_))
   go_roundw
   case rel=>exact ⟨k+1,m,by omega,by go_num,HQ.out,HS9.out⟩
   case measure=>simp [intOf];omega
  ·obtain rfl:k=n:=by omega
   have hd:decide ((k:Int)<(k:Int))=false:=by simp
   obtain rfl:u=t:=by
    have h:=HRU.out;rw [rB.out,HRP.out] at h;cases h;rfl
   obtain ⟨cu,YT⟩:∃c,aC u=c:=⟨_,rfl⟩;have L_:Hid (aC u=cu):=YT;have hT:=HS.out.tr;have hK:=HS.out.re;have h9:=HS.out.set u;rw [YT] at h9;have HS9:Hid (az (wr.setRow K cu) K u∧Below w.heap.size w (wr.setRow K cu)):=⟨h9.re,h9.aK⟩;clear HS h9 YT;go_wp2_with (first | (show wpList _ _ _ ({dst:=_,op:=Op.load 39 _,type:=_,pos:=_,after:=_,guard:=_}::_) _ _;refine pV hT L_.out _ rfl rfl rfl ?_) | (show wpList _ _ _ ({dst:=_,op:=Op.store 39 _ _,type:=_,pos:=_,after:=_,guard:=_}::_) _ _;refine eE hK L_.out rfl _ _ rfl rfl rfl ?_))
   refine bodyPost_ret (pg (p:=2) (t:=3) rfl _ _ K u rfl HS9.out.1) rfl ?_;exact ⟨rfl,HS9.out.2⟩
open Go.RowKit Go.Extern.Stop Go.Stop Go.Extern
theorem ZR (t:Value) (w:World):
  Calls prog 35 #[.nilIface,t] w fun e w'=>e=.returned (.bool false)∧w'=w:=by
 go_enter func35,ntmps35;go_wp2
 go_ret;exact ⟨rfl,rfl⟩
theorem DM (t:Addr) (w:World):(ReflectliteValue.unpack (.iface 123 (.pointer (some t)))).run prog w
  =.ok (.agg #[.pointer (some ⟨5,123,none⟩),.pointer (some ⟨w.heap.size,0,none⟩),.int .u64 150]) (w.alloc (.cells #[.pointer (some t)] 123)):=by kernel_rfl
theorem QH (a:Addr) (w:World):(ReflectliteValue.methodAny (ReflectliteValue.valueError "reflectlite.Value.Type" 0) (fun t _ _ _=>ReflectliteType.toType t) #[.agg #[.pointer (some ⟨5,123,none⟩),.pointer (some a),.int .u64 150]]).run prog w
  =.ok (.iface 204 (.agg #[.pointer (some ⟨5,123,none⟩)])) w:=by kernel_rfl
theorem QM (w:World):((ReflectliteType.abiMethod fun t=>(fun a:Nat=>Value.int IntKind.u8 (a:Int))<$>Rtype.kind t) #[.pointer (some ⟨5,123,none⟩)]).run prog w=.ok (.int .u8 22) w:=by kernel_rfl
theorem QL (w:World):((ReflectliteType.abiMethod fun t=>(fun a:Nat=>Value.int IntKind.u8 (a:Int))<$>Rtype.kind t) #[.pointer (some ⟨5,121,none⟩)]).run prog w=.ok (.int .u8 25) w:=by kernel_rfl
theorem abI (z:Sem Value) (f:TypeId→Addr→Nat→Nat→Sem Value) (v:Value):
  ReflectliteValue.method z f #[v]=(do match ←ReflectliteValue.parts v with | none=>z | some (t,a,fl)=>f t a fl (fl%32)):=rfl
theorem zr (a:Addr) (w:World):(ReflectliteValue.parts (.agg #[.pointer (some ⟨5,123,none⟩),.pointer (some a),.int .u64 150])).run prog w=.ok (some (123,a,150)) w:=by kernel_rfl
theorem LG (a p:Addr) (W:World) (ha:W.cell? a=some (.pointer (some p))):
  (ReflectliteValue.method (ReflectliteValue.valueError "reflectlite.Value.IsNil" 0) ReflectliteValue.isNil #[.agg #[.pointer (some ⟨5,123,none⟩),.pointer (some a),.int .u64 150]]).run prog W=.ok (.bool false) W:=by
 rw [abI];simp only [Sem.run_bind,zr,Result.andThen];simp [ReflectliteValue.isNil,loadVar,isAgg,underlying,underlying123,ha,Result.andThen]
theorem QO (w:World):(ReflectliteType.method ReflectliteType.elem #[.agg #[.pointer (some ⟨5,123,none⟩)]]).run prog w=.ok (.iface 204 (.agg #[.pointer (some ⟨5,121,none⟩)])) w:=by kernel_rfl
theorem U9 (w:World):(ReflectliteType.relation "Implements" ReflectliteType.implements_ #[.agg #[.pointer (some ⟨5,121,none⟩)],.iface 204 (.agg #[.pointer (some ⟨5,83,none⟩)])]).run prog w=.ok (.bool true) w:=by kernel_rfl
theorem QG (v:Value) (w:World):(ReflectliteType.typeOf #[.iface 121 v]).run prog w=.ok (.iface 204 (.agg #[.pointer (some ⟨5,121,none⟩)])) w:=by kernel_rfl
theorem QF (v:Value) (w:World):(ReflectliteType.typeOf #[.iface 162 v]).run prog w=.ok (.iface 204 (.agg #[.pointer (some ⟨5,162,none⟩)])) w:=by kernel_rfl
theorem U' (w:World):(ReflectliteType.relation "AssignableTo" ReflectliteType.assignableTo #[.agg #[.pointer (some ⟨5,121,none⟩)],.iface 204 (.agg #[.pointer (some ⟨5,121,none⟩)])]).run prog w=.ok (.bool true) w:=by kernel_rfl
theorem U_ (w:World):(ReflectliteType.relation "AssignableTo" ReflectliteType.assignableTo #[.agg #[.pointer (some ⟨5,162,none⟩)],.iface 204 (.agg #[.pointer (some ⟨5,121,none⟩)])]).run prog w=.ok (.bool false) w:=by kernel_rfl
theorem DL (e:Int) (w:World):(ReflectliteValue.unpack (.iface 121 (.agg #[.int .i64 e]))).run prog w
  =.ok (.agg #[.pointer (some ⟨5,121,none⟩),.pointer (some ⟨w.heap.size,0,none⟩),.int .u64 153]) (w.alloc (.cells #[.int .i64 e] 121)):=by kernel_rfl
theorem LH (w:World):(Rtype.elem? 123).run prog w=.ok (some 121) w:=by kernel_rfl
theorem Zs (p:Addr) (w:World):(ReflectliteValue.mk 121 p ReflectliteValue.flagAddr).run prog w=.ok (.agg #[.pointer (some ⟨5,121,none⟩),.pointer (some p),.int .u64 409]) w:=by kernel_rfl
theorem QN (a p:Addr) (W:World) (ha:W.cell? a=some (.pointer (some p))):
  (ReflectliteValue.method (ReflectliteValue.valueError "reflectlite.Value.Elem" 0) ReflectliteValue.elem #[.agg #[.pointer (some ⟨5,123,none⟩),.pointer (some a),.int .u64 150]]).run prog W
   =.ok (.agg #[.pointer (some ⟨5,121,none⟩),.pointer (some p),.int .u64 409]) W:=by
 rw [abI];simp only [Sem.run_bind,zr,Result.andThen];simp [ReflectliteValue.elem,loadVar,isAgg,underlying,underlying123,ha,Result.andThen,LH,Zs]
theorem GC (a:Addr) (w:World):(ReflectliteValue.parts (.agg #[.pointer (some ⟨5,121,none⟩),.pointer (some a),.int .u64 409])).run prog w=.ok (some (121,a,409)) w:=by kernel_rfl
theorem LF (a:Addr) (w:World):(ReflectliteValue.parts (.agg #[.pointer (some ⟨5,121,none⟩),.pointer (some a),.int .u64 153])).run prog w=.ok (some (121,a,153)) w:=by kernel_rfl
theorem LI (w:World):(Rtype.directlyAssignable 121 121).run prog w=.ok true w:=by kernel_rfl
theorem adr (v x:Value):ReflectliteValue.set #[v,x]=(do
  let (some (dst,a,fl),some (src,b,_)):=(←ReflectliteValue.parts v,←ReflectliteValue.parts x)
   | unsupported (.noEntry "extern/(internal/reflectlite.Value).Set.zeroValue")
  if fl/ReflectliteValue.flagAddr%2==0 then unsupported (.noEntry "extern/(internal/reflectlite.Value).Set.unaddressable")
  let val ←loadVar src b
  if ←Rtype.directlyAssignable dst src then storeVar dst a val
  else if ←Rtype.implements dst src then
   if (←Rtype.kind src)==20 then
    match val with
    | .nilIface=>unsupported (.noEntry "extern/reflectlite: a nil value of one interface type handed on as a value of another")
    | _=>storeVar dst a val
   else storeVar dst a (.iface src val)
  else panicString ("reflectlite.Set: value of type " ++(←Rtype.spelt src)++ " is not assignable to type " ++(←Rtype.spelt dst))
  pure (.tuple #[])):=rfl
theorem U8 (b:Nat) (e:Int) (W:World) (hb:W.cell? ⟨b,0,none⟩=some (.int .i64 e)):(loadVar 121 ⟨b,0,none⟩).run prog W=.ok (.agg #[.int .i64 e]) W:=by
 have hi:(sizeOf 121).run prog W=.ok 1 W:=by kernel_rfl
 simp [loadVar,isAgg,underlying,underlying121,hi,loadCells,loadCellsFrom,Addr.add,hb,Result.andThen]
theorem Zr (r b:Nat) (e:Int) (old:Value) (W:World) (hb:W.cell? ⟨b,0,none⟩=some (.int .i64 e)) (ht:W.cell? ⟨r,0,none⟩=some old) (hf:W.frozen? ⟨r,0,none⟩=false):
  (ReflectliteValue.set #[.agg #[.pointer (some ⟨5,121,none⟩),.pointer (some ⟨r,0,none⟩),.int .u64 409],.agg #[.pointer (some ⟨5,121,none⟩),.pointer (some ⟨b,0,none⟩),.int .u64 153]]).run prog W
   =.ok (.tuple #[]) (W.setCell ⟨r,0,none⟩ (.int .i64 e)):=by
 rw [adr];have hi:(sizeOf 121).run prog W=.ok 1 W:=by kernel_rfl
 simp only [Sem.run_bind,GC,LF,Result.andThen];simp [ReflectliteValue.flagAddr,U8 b e W hb,Result.andThen,LI,storeVar,Value.cells,storeCells,Addr.add,hi];rw [run_store prog W ⟨r,0,none⟩ _ _ (by rfl)];simp [ht,hf]
variable {w:World} {a:Addr} {v:Value}
theorem U7 (h:Value) (w:World):(Go.method 479 204 (.agg #[h]) "AssignableTo").run prog w=.ok (290,.agg #[h]) w:=by kernel_rfl
theorem U6 (h x:Value) (w:World):(Go.method 479 162 (.agg #[h,x]) "Unwrap").run prog w=.ok (285,.agg #[h,x]) w:=by kernel_rfl
theorem U5 (v:Value) (xT:TypeId) (w:World):(Instr.typeAssert (.iface 162 v) xT 209 true).run prog w=.ok (.tuple #[.nilIface,.bool false]) w:=run_typeAssert_lacksB underlying209 (by kernel_rfl) (by kernel_rfl) v xT w
theorem Zq (v:Value) (xT:TypeId) (w:World):(Instr.typeAssert (.iface 162 v) xT 212 true).run prog w=.ok (.tuple #[.iface 162 v,.bool true]) w:=run_typeAssert_hasB underlying212 (by kernel_rfl) v xT w
theorem WN (h:w.cell? a=some v):a.block<w.heap.size:=World.block_lt_of_cell? w a h
theorem ca (h:w.cell? a=some v) (o:Obj):(w.alloc o).cell? a=some v:=by rw [World.cell?_alloc_lt _ _ a (WN h)];exact h
theorem ca2 (h:w.cell? a=some v) (o o2:Obj):((w.alloc o).alloc o2).cell? a=some v:=ca (ca h o) o2
theorem fa (h:w.frozen? a=false) (hc:w.cell? a=some v) (o:Obj):(w.alloc o).frozen? a=false:=by rw [World.frozen?_alloc_old _ _ a (Nat.ne_of_lt (WN hc))];exact h
theorem ZQ (x:ByteArray) (e:Int) (R q:Nat) (old:Value) (w:World) (hq:w.cell? ⟨q,0,none⟩=some (.pointer (some ⟨R,0,none⟩))) (Ue:w.cell? ⟨R,0,none⟩=some old) (hf0:w.frozen? ⟨R,0,none⟩=false):
  Calls prog 69 #[.iface 162 (.agg #[.string x,.iface 121 (.agg #[.int .i64 e])]),.iface 123 (.pointer (some ⟨R,0,none⟩)),.agg #[.pointer (some ⟨5,123,none⟩),.pointer (some ⟨q,0,none⟩),.int .u64 150],.iface 204 (.agg #[.pointer (some ⟨5,121,none⟩)])] w
   fun ev w'=>ev=.returned (.bool true)∧w'=(((w.alloc (.cells #[.pointer (some ⟨5,123,none⟩),.pointer (some ⟨q,0,none⟩),.int .u64 150] 169)).alloc (.cells #[.string x,.iface 121 (.agg #[.int .i64 e])] 162)).alloc (.cells #[.int .i64 e] 121)).setCell ⟨R,0,none⟩ (.int .i64 e):=by
 have h1:= @run_callFunc_extern prog 100 _ ReflectliteType.typeOf func100 (by kernel_rfl) (by kernel_rfl) (by kernel_rfl) (by kernel_rfl);have tW:=QF;have tR:=QG;have mA:=U7;have mU:=U6;have aW:=U_;have aR:=U';have nA:=U5;have yU:=Zq;have h2:= @run_callFunc_extern prog 290 _ (ReflectliteType.relation "AssignableTo" ReflectliteType.assignableTo) func290 (by kernel_rfl) (by kernel_rfl) (by kernel_rfl) (by kernel_rfl);have h3:= @run_callFunc_extern prog 66 _ (fun args=>ReflectliteValue.unpack (args.getD 0 (.tuple #[]))) func66 (by kernel_rfl) (by kernel_rfl) (by kernel_rfl) (by kernel_rfl);have h4:= @run_callFunc_extern prog 101 _ (ReflectliteValue.method (ReflectliteValue.valueError "reflectlite.Value.Elem" 0) ReflectliteValue.elem) func101 (by kernel_rfl) (by kernel_rfl) (by kernel_rfl) (by kernel_rfl);have h5:= @run_callFunc_extern prog 102 _ ReflectliteValue.set func102 (by kernel_rfl) (by kernel_rfl) (by kernel_rfl) (by kernel_rfl);have vR:=DL;have el:=QN ⟨q,0,none⟩ ⟨R,0,none⟩ ((w.alloc (.cells #[.pointer (some ⟨5,123,none⟩),.pointer (some ⟨q,0,none⟩),.int .u64 150] 169)).alloc (.cells #[.string x,.iface 121 (.agg #[.int .i64 e])] 162)) (ca2 hq _ _)
 have st:=Zr R (w.heap.size+1+1) e old (((w.alloc (.cells #[.pointer (some ⟨5,123,none⟩),.pointer (some ⟨q,0,none⟩),.int .u64 150] 169)).alloc (.cells #[.string x,.iface 121 (.agg #[.int .i64 e])] 162)).alloc (.cells #[.int .i64 e] 121))
  (by rw [World.cell?_alloc_at _ _ _ _ (by simp)];rfl) (ca (ca2 Ue _ _) _) (fa (fa (fa hf0 Ue _) (ca Ue _) _) (ca2 Ue _ _) _)
 go_enter func69,ntmps69;go_wp2
 refine wp_loop_rounds 2 ?_;rw [rounds_succ];go_wp2
 rw [rounds_succ];go_wp2
 go_ret;exact ⟨rfl,rfl⟩
end Go.Proofs.YtanaapfobpgibaaGreatDoor
