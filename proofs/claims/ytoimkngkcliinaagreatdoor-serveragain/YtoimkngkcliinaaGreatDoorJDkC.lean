/- DkC, DkD, joined. -/
import Derived.Test.YtoimkngkcliinaaGreatDoorJDkMath
import Derived.Shelf.SlMaps.Clone
import Derived.Laws.Cover3
namespace Go.Proofs.YtoimkngkcliinaaGreatDoor.Jr.Dk
open Go.RowKit Go.Maps
set_option linter.unusedVariables false
set_option maxRecDepth 4000
set_option linter.unusedSimpArgs false
theorem Dk.wrote {N:Nat} {w w1 w2:World} {p:Nat} {s:St} {b m r cap:Nat} {x:Value} {at':Int} {t:ByteArray} (h:Dk N w p s b m x) (hg:Gp (at',t))
  (hm:Mp w1 b (2048+s.log.length+1) (setB s.bl at' t)) (hk:Kept (fun k=>k=b) w w1) (o:Obj) (hgr:(w1.alloc o).grownBy w2 x.ownBlock)
  (hr:w2.ownsRow N 139 2 (.slice (some ⟨r,0,none⟩) (s.log.length+1) cap) (s.log.length+1) (cellsW s.log++[.int .i64 at',.string t]))
  (hr2:x.ownBlock=some r∨r=w1.heap.size+1):
  Dk N (w2.setCell ⟨p,2,none⟩ (.slice (some ⟨r,0,none⟩) (s.log.length+1) cap)) p ⟨s.img,s.log++[(at',t)],s.left⟩ b m (.slice (some ⟨r,0,none⟩) (s.log.length+1) cap)∧
  Kept (Fd p b m x) w (w2.setCell ⟨p,2,none⟩ (.slice (some ⟨r,0,none⟩) (s.log.length+1) cap))∧
  (∀k,Fd p b m (.slice (some ⟨r,0,none⟩) (s.log.length+1) cap) k→Fd p b m x k∨w.heap.size≤k)∧
  w2.heap[p]? =some (.cells #[.map (some b),.map (some m),x,.int .i64 s.left] 132):=by
 have hs:=hk.size;have hpl:=h.plt;have k2:Kept (fun k=>k=b∨x.ownBlock=some k) w w2:=((hk.mono (F':=fun k=>k=b∨x.ownBlock=some k) (fun _ _ e=>.inl e)).alloc o).grown hgr (fun k e _=>.inr e);have k12:Kept (fun k=>x.ownBlock=some k) w1 w2:=((Kept.refl (fun k=>x.ownBlock=some k) w1).alloc o).grown hgr (fun k e _=>e)
 have hpp:¬(p=b∨x.ownBlock=some p):=fun e=>by
  rcases e with e | e
  ·exact h.pb e
  ·exact (h.px p e).1 rfl
 have hrp:r≠p:=by
  rcases hr2 with e | e
  ·exact (h.px r e).1
  ·omega
 have hblk:=(k2.block p hpl hpp).trans h.blk;have ks:Kept (fun k=>k=p) w2 (w2.setCell ⟨p,2,none⟩ (.slice (some ⟨r,0,none⟩) (s.log.length+1) cap)):=(Kept.refl (fun k=>k=p) w2).setCell (p:=⟨p,2,none⟩) (fun _=>rfl) _;have hb2:Mp w2 b (2048+s.log.length+1) (setB s.bl at' t):=hm.kept k12 (fun e=>(h.px b e).2.1 rfl)
 have hm2:Mp w2 m 2048 (fnI s.img):=h.mm.kept k2 (fun e=>by
  rcases e with e | e
  ·exact h.ne e.symm
  ·exact (h.px m e).2.2.1 rfl)
 have hbl:(St.mk s.img (s.log++[(at',t)]) s.left).bl=setB s.bl at' t:=by simp [St.bl,rp_snoc]
 refine ⟨⟨?_,?_,hm2.kept ks (fun e=>h.pm e.symm),?_,h.ne,h.np,h.nb,h.nm,⟨h.ok.i1,h.ok.i2,?_,h.ok.p1,h.ok.p2⟩⟩,?_,?_,hblk⟩
 ·rw [blk_set hblk];simp
 ·rw [hbl];have:=hb2.kept ks (fun e=>h.pb e.symm)
  simpa [Nat.add_assoc] using this
 ·have e1:cellsW s.log++[.int .i64 at',.string t]=cellsW (s.log++[(at',t)]):=by rw [cellsW_append];rfl
  rw [e1] at hr;have:=ks.row hr (fun k e e'=>by cases e;exact hrp e');unfold RwW
  simpa using this
 ·intro q hq;rcases List.mem_append.1 hq with hq | hq
  ·exact h.ok.l1 q hq
  ·simp at hq;subst hq;exact hg
 ·refine (k2.mono ?_).setCell (fun _=>.inl rfl) _;intro k _ e;rcases e with e | e
  ·exact .inr (.inl e)
  ·exact .inr (.inr (.inr e))
 ·intro k hk';rcases hk' with e | e | e | e
  ·exact .inl (.inl e)
  ·exact .inl (.inr (.inl e))
  ·exact .inl (.inr (.inr (.inl e)))
  ·cases e
   rcases hr2 with e | e
   ·exact .inl (.inr (.inr (.inr e)))
   ·exact .inr (by show w.heap.size≤r;omega)
def Wrote (N:Nat) (w:World) (p:Nat) (s:St) (b m:Nat) (x:Value) (w':World):Prop:=∃x',Dk N w' p s b m x'∧Kept (Fd p b m x) w w'∧(∀k,Fd p b m x' k→Fd p b m x k∨w.heap.size≤k)
theorem Dk.same {N:Nat} {w:World} {p:Nat} {s:St} {b m:Nat} {x:Value} (h:Dk N w p s b m x):Wrote N w p s b m x w:=⟨x,h,Kept.refl _ _,fun k hk=>.inl hk⟩
set_option maxHeartbeats 1000000 in
theorem write_any (N:Nat) (w:World) (p:Nat) (s:St) (b m:Nat) (x:Value) (h:Dk N w p s b m x) (at':Int) (t:ByteArray) (hw:(Lit.int .i64 at').wf=true) (ht:t.size≤9223372036854775807) (hl:s.log.length+1≤5864062014805) (hN:N≤w.heap.size):
  Calls Tryz.prog 201 #[.pointer (some ⟨p,0,none⟩),.int .i64 at',.string t] w fun e w'=>e=.returned (.int .i64 (we s.left at' t))∧Wrote N w p (nx s at' t) b m x w':=by
 have hr:=refusal_any N w p s b m x h at';by_cases hz:rf s.left at'=0
 ·rw [hz] at hr;by_cases h32:t.size≤32
  ·have hn0:s.left≠0:=fun e=>by simp [rf,e] at hz
   have hpl:¬(at'<0∨2048≤at'):=fun e=>by simp [rf,hn0,e] at hz
   have hg:Gp (at',t):=⟨by show 0≤at';omega,by show at'<2048;omega,h32⟩;have hwe:we s.left at' t=0:=we_good hn0 hg;have hnx:nx s at' t=⟨s.img,s.log++[(at',t)],nl s.left⟩:=by unfold nx;rw [if_pos hwe]
   rw [hwe,hnx];obtain ⟨i0,hi,hz0,hz1,hz2⟩:=info_parts infoW;obtain ⟨a0,cap0,rfl⟩:=h.spell;have c0:=h.c0;have hput:=put_any b _ at' t _ w h.mb (by omega) hw h32;have HD:Hid (Dk N w p s b m (.slice a0 s.log.length cap0)):=h;obtain ⟨n,hn⟩:∃n,s.log.length=n:=⟨_,rfl⟩;obtain ⟨l,hl0⟩:∃l,s.left=l:=⟨_,rfl⟩;have HN':Hid (s.log.length=n):=hn;have HL':Hid (s.left=l):=hl0;have hp1:=h.ok.p1;have hp2:=h.ok.p2;rw [hl0] at hp1 hp2 hn0;rw [hn] at hl hput;clear h hz hwe hnx hpl;have d32:decide ((t.size:Int)>32)=false:=by simp;omega
   go_enter Tryz.func201,Tryz.ntmps201;go_wp2_with fail
   refine hr.mono ?_;rintro e w' ⟨rfl,rfl⟩;clear hr;go_wp2_with fail
   refine hput.mono ?_;rintro e w1 ⟨rfl,hm1,hk1⟩;clear hput;have c2:=hk1.cell HD.out.c2 HD.out.pb;have c3:=hk1.cell HD.out.c3 HD.out.pb;rw [hn] at c2;rw [hl0] at c3;have HM1:Hid (Mp w1 b (2048+n+1) (setB s.bl at' t)):=hm1;have HK1:Hid (Kept (fun k=>k=b) w' w1):=hk1
   have HRW:Hid (w1.ownsRow N 139 2 (.slice a0 n cap0) n (cellsW s.log)):=by
    have:=hk1.row HD.out.row (fun k e e'=>(HD.out.px k e).2.1 e');rw [hn] at this;exact this
   have hs1:=hk1.size;clear hm1 hk1 c0 hn hl0;go_wp2_with (at_builtin;refine wpList_append_lies _ rfl _ _ _ rfl N 139 i0 _ 2 24 Tryz.underlying60 hi hz0 hz1 hz2 rfl (by omega) _ n (cellsW s.log) rfl (HRW.out.alloc _) ⟨w1.heap.size,0,none⟩ 1 1 [.int .i64 at',.string t] rfl rfl (cell_two_at _ _ _ _ _ rfl) (by simp [Value.oneCell']) (by omega) (by unfold maxLen;omega) (by omega) (by simp;omega) (w1.heap.size+1) (by simp) ?_;intro r cap1 w2 hown2 hgrow2 hat2 hlt2;have HW:=HD.out.wrote (r:=r) (cap:=cap1) hg (by rw [HN'.out];exact HM1.out) HK1.out _ (by rw [HN'.out];exact hgrow2) (by rw [HN'.out];exact hown2) (by rw [HN'.out];exact hat2);rw [HN'.out] at HW;have e2:w2.cell? ⟨p,2,none⟩=some (.slice a0 n cap0):=(by simp [World.cell?,HW.2.2.2]);have f2:w2.frozen? ⟨p,2,none⟩=false:=(by simp [World.frozen?,HW.2.2.2]);have e3:w2.cell? ⟨p,3,none⟩=some (.int .i64 l):=(by simp [World.cell?,HW.2.2.2,HL'.out]);have f3:w2.frozen? ⟨p,3,none⟩=false:=(by simp [World.frozen?,HW.2.2.2]);have HW':Hid _:=HW;clear HW hown2 hgrow2 hat2 hlt2)
   ·rename_i hl1
    have hl1':l≠-1:=by simpa using hl1
    have e:nl s.left=l - 1:=by rw [HL'.out];unfold nl;rw [if_neg hl1']
    go_ret;rw [e,HN'.out];exact ⟨rfl,_,HW'.out.1.power (l - 1) (by omega) (by omega),HW'.out.2.1.setCell (p:=⟨p,3,none⟩) (fun _=>.inl rfl) _,HW'.out.2.2.1⟩
   ·rename_i hl1
    have hl1':l=-1:=by simpa using hl1
    have e:nl s.left=s.left:=by rw [HL'.out];unfold nl;rw [if_pos hl1',hl1']
    go_ret;rw [e,HN'.out];exact ⟨rfl,_,HW'.out.1,HW'.out.2.1,HW'.out.2.2.1⟩
  ·have d32:decide ((t.size:Int)>32)=true:=by simp;omega
   have hn0:s.left≠0:=fun e=>by simp [rf,e] at hz
   have hpl:¬(at'<0∨2048≤at'):=fun e=>by simp [rf,hn0,e] at hz
   have hwe:we s.left at' t=9:=by unfold we;rw [if_neg hn0,if_neg hpl,if_pos (by omega)]
   have hnx:nx s at' t=s:=by unfold nx;rw [if_neg (by rw [hwe];decide)]
   rw [hwe,hnx];have HD:Hid (Wrote N w p s b m x w):=h.same;clear h hwe hnx;go_enter Tryz.func201,Tryz.ntmps201;go_wp2_with fail
   refine hr.mono ?_;rintro e w' ⟨rfl,rfl⟩;go_wp2
   go_ret;exact ⟨rfl,HD.out⟩
 ·have hwe:we s.left at' t=rf s.left at':=by
   unfold rf at hz ⊢;unfold we;split
   ·rfl
   ·split
    ·rfl
    ·rename_i h1 h2;rw [if_neg h1,if_neg h2] at hz;exact absurd rfl hz
  have hnx:nx s at' t=s:=by unfold nx;rw [if_neg (by rw [hwe];exact hz)]
  rw [hwe,hnx];have HD:Hid (Wrote N w p s b m x w):=h.same;clear h hwe hnx;obtain ⟨r,hr0⟩:∃r,rf s.left at'=r:=⟨_,rfl⟩;rw [hr0] at hr hz ⊢;clear hr0;go_enter Tryz.func201,Tryz.ntmps201;go_wp2_with fail
  refine hr.mono ?_;rintro e w' ⟨rfl,rfl⟩;go_wp2
  go_ret;exact ⟨rfl,HD.out⟩
/- A copy of a list of writes. -/
theorem eql_nil (w:World) (a:Option Addr) (l c:Nat):(binOp .eql 60 (.slice a l c) (.slice none 0 0)).run Tryz.prog w=.ok (.bool a.isNone) w:=by
 simp only [binOp];simp [run_equal_slice_nil w 60 139 a l c Tryz.underlying60]
def WList (w:World) (v:Value) (L:List (Int×ByteArray)):Prop:=(v=.slice none 0 0∧L=[])∨∃g o cap,v=.slice (some ⟨g,o,none⟩) L.length cap∧RdW w (some ⟨g,o,none⟩) L
theorem RwW.list {w:World} {N:Nat} {v:Value} {L:List (Int×ByteArray)} (h:RwW w N v L):WList w v L:=by
 rcases h.2 with ⟨h0,h1⟩ | ⟨g,cap,cur,hv,_⟩
 ·exact .inl ⟨h0,List.length_eq_zero_iff.1 h1⟩
 ·subst hv;exact .inr ⟨g,0,cap,rfl,h.rd⟩
theorem row_empty (w1:World) (t z:Nat):(w1.alloc (.cells #[] t)).ownsRow w1.heap.size t z (.slice (some ⟨w1.heap.size,0,none⟩) 0 0) 0 []:=
 ⟨by simp,Or.inr ⟨w1.heap.size,0,#[],rfl,Nat.le_refl _,heap_alloc_new w1 _,Nat.le_refl _,Nat.zero_le _,by simp,by simp⟩⟩
set_option maxHeartbeats 1000000 in
theorem clone_any (v:Value) (L:List (Int×ByteArray)) (w:World) (h:WList w v L) (hl:L.length≤5864062014805):Calls Tryz.prog 51 #[v] w fun e w'=>∃v',e=.returned v'∧RwW w' w.heap.size v' L∧Below w.heap.size w w':=by
 obtain ⟨i0,hi,hz0,hz1,hz2⟩:=info_parts infoW;have hq:=eql_nil;rcases h with ⟨rfl,rfl⟩ | ⟨g,o,cap,rfl,hr⟩
 ·go_enter Tryz.func51,Tryz.ntmps51;go_wp2
  go_ret;exact ⟨_,rfl,World.ownsRow_nil _ _ _ _,Below.refl _ _⟩
 ·have HE0:Hid _:=row_empty w 139 2;have HNW:Hid _:=(hr.later (below1 w (.cells #[] 139))).news;obtain ⟨n,hn⟩:∃n,L.length=n:=⟨_,rfl⟩;have HN':Hid (L.length=n):=hn;have HCL:Hid ((cellsW L).length=n * 2):=by rw [cellsW_length,hn];exact rfl
  have hb:=below1 w (.cells #[] 139);have HB:Hid _:=hb;rw [hn] at hl ⊢;clear hr hn hb;by_cases h0:n=0
  ·have H0:Hid (n=0):=h0;clear h0;go_enter Tryz.func51,Tryz.ntmps51;go_wp2_with (at_builtin;refine wpList_append_fits _ rfl _ _ _ rfl w.heap.size 139 i0 2 Tryz.underlying60 hi hz1 w.heap.size 0 0 [] rfl HE0.out ⟨g,o,none⟩ n cap (cellsW L) rfl HCL.out HNW.out (cellsW_one _) (by have:=H0.out;omega) ?_;intro w2 hown2 hgrow2;rw [Nat.zero_add,List.nil_append] at hown2;have HO2:Hid _:=hown2;have HG2:Hid _:=hgrow2;clear hown2 hgrow2)
   go_ret;refine ⟨_,rfl,?_,?_⟩
   ·unfold RwW;rw [HN'.out];exact HO2.out
   ·exact HB.out.grown HG2.out HB.out.size (fun j hj=>by cases hj;exact Nat.le_refl _)
  ·have h0':0<n:=by omega
   go_enter Tryz.func51,Tryz.ntmps51;go_wp2_with (at_builtin;refine wpList_append_lies _ rfl _ _ _ rfl w.heap.size 139 i0 _ 2 24 Tryz.underlying60 hi hz0 hz1 hz2 rfl (by omega) _ 0 [] rfl HE0.out ⟨g,o,none⟩ n cap (cellsW L) rfl HCL.out HNW.out (cellsW_one _) h0' (by unfold maxLen;omega) (by omega) (by simp) (w.heap.size+1) (by simp) ?_;intro g2 cap2 w2 hown2 hgrow2 hat2 hlt2;rw [Nat.zero_add,List.nil_append] at hown2;have HO2:Hid _:=hown2;have HG2:Hid _:=hgrow2;clear hown2 hgrow2 hat2 hlt2)
   go_ret;refine ⟨_,rfl,?_,?_⟩
   ·unfold RwW;rw [HN'.out];exact HO2.out
   ·exact HB.out.grown HG2.out HB.out.size (fun j hj=>by cases hj;exact Nat.le_refl _)
/- A copy of a map. -/
theorem writes_any (N:Nat) (w:World) (p:Nat) (s:St) (b m:Nat) (x:Value) (h:Dk N w p s b m x) (hl:s.log.length≤5864062014805):Calls Tryz.prog 21 #[.pointer (some ⟨p,0,none⟩)] w fun e w'=>∃v',e=.returned v'∧RwW w' w.heap.size v' s.log∧Below w.heap.size w w':=by
 have c2:=h.c2;have hc:=clone_any x s.log w h.row.list hl;clear h;go_enter Tryz.func21,Tryz.ntmps21;go_wp2_with fail
 refine hc.mono ?_;rintro e w' ⟨v',rfl,hr,hb⟩;go_wp2
 go_ret;exact ⟨_,rfl,hr,hb⟩
/- The greatest place so far. -/
structure Lst (B:Bl) (left:Lit→Bool) (l:Int):Prop where
 lo: -1≤l
 hi:l<2048
 at':l=-1∨(B l).size≠0
 rest:∀x,(B x).size≠0→left (.int .i64 x)=true∨x≤l
theorem Lst.start {B:Bl} {D:DataW Unit} (h:MapIs D B):Lst B (Maps.has D) (-1):=⟨by omega,by omega,.inl rfl,fun x hx=>.inl (h.has x hx)⟩
theorem sameKey_int (x y:Int):(Lit.int .i64 x).sameKey (.int .i64 y)=decide (x=y):=by
 by_cases e:x=y
 ·subst e;simp [Lit.sameKey]
 ·rw [Maps.sameKey_ne (fun h=>e (by cases h;rfl))];simp [e]
theorem Lst.step {B:Bl} {left:Lit→Bool} {l x:Int} (h:Lst B left l) (hB:Dom B) (hx:(B x).size≠0) (n:Int) (hn:n=max l x):Lst B (fun z=>left z&& !z.sameKey (.int .i64 x)) n:=by
 have d:=hB.at' x hx;have h1:=h.lo;have h2:=h.hi;refine ⟨by omega,by omega,?_,fun y hy=>?_⟩
 ·rcases h.at' with e | e
  ·right;have:n=x:=by omega
   rw [this];exact hx
  ·right
   by_cases hlx:l≤x
   ·have:n=x:=by omega
    rw [this];exact hx
   ·have:n=l:=by omega
    rw [this];exact e
 ·by_cases e:y=x
  ·right;omega
  ·rcases h.rest y hy with hl | hl
   ·left;simp [hl,sameKey_int,e]
   ·right;omega
theorem Lst.fin {B:Bl} {left:Lit→Bool} {l:Int} (h:Lst B left l) (hl:∀kl,left kl=false):l+1=(top B:Int):=by
 have h1:=h.lo;have h2:=h.hi
 have e:top B=(l+1).toNat:=by
  refine top_eq (by omega) ?_ (fun i hi hi2=>?_)
  ·rcases h.at' with e | e
   ·left;omega
   ·right;rw [show (((l+1).toNat:Nat):Int) - 1=l by omega];exact e
  ·by_cases hz:(B (i:Int)).size=0
   ·exact hz
   ·rcases h.rest _ hz with h' | h'
    ·rw [hl] at h';cases h'
    ·omega
 omega
/- Texts that are filled in. -/
def filled (B:Bl) (left:Lit→Bool):Bl:=fun x=>if left (.int .i64 x)=true then ⟨#[]⟩ else B x
theorem filled_start {B:Bl} {D:DataW Unit} (h:MapIs D B) (n:Nat):tx (filled B (Maps.has D)) n=List.replicate n ⟨#[]⟩:=by
 apply List.ext_getElem
 ·simp
 ·intro i h1 h2;simp only [tx,List.getElem_map,List.getElem_range,List.getElem_replicate,filled];split
  ·rfl
  ·rename_i hh
   by_cases hz:(B (i:Int)).size=0
   ·exact nob_of hz
   ·exact absurd (h.has _ hz) hh
theorem filled_step (B:Bl) (left:Lit→Bool) (x:Int) (h0:0≤x) (n:Nat):tx (filled B (fun z=>left z&& !z.sameKey (.int .i64 x))) n=(tx (filled B left) n).set x.toNat (B x):=by
 apply List.ext_getElem
 ·simp
 ·intro i h1 h2;simp only [tx,List.getElem_map,List.getElem_range,List.getElem_set,filled,sameKey_int];by_cases e:x.toNat=i
  ·have e':(i:Int)=x:=by omega
   simp [e,e']
  ·have e':¬(i:Int)=x:=by omega
   simp [e,e']
theorem filled_fin (B:Bl) (left:Lit→Bool) (hl:∀kl,left kl=false) (n:Nat):tx (filled B left) n=tx B n:=by
 have:filled B left=B:=by funext x;simp [filled,hl]
 rw [this]
set_option maxHeartbeats 2000000 in
theorem image_any (N:Nat) (w:World) (p:Nat) (s:St) (b m:Nat) (x:Value) (h:Dk N w p s b m x) (hl:s.log.length≤5864062014805):Calls Tryz.prog 23 #[.pointer (some ⟨p,0,none⟩)] w fun e w'=>∃v',e=.returned v'∧RwS w' w.heap.size v' (im s.bl)∧Below w.heap.size w w':=by
 have c0:=h.c0;have hpl:=h.plt;obtain ⟨i0,hi,hz0,hz1,hz2⟩:=info_parts infoS;obtain ⟨D,hown,hM⟩:=h.mb;have hdom:=h.ok.dom;have HDOM:Hid (Dom s.bl):=hdom;obtain ⟨B,hB⟩:∃B,s.bl=B:=⟨_,rfl⟩;obtain ⟨n,hn⟩:∃n,2048+s.log.length=n:=⟨_,rfl⟩;rw [hB] at hM HDOM ⊢;rw [hn] at hown;have HM:Hid (MapIs D B):=hM;have hblt:=h.mb.lt;have hown:w.ownsMap Tryz.prog 3 (plainElem Tryz.prog 9) b n D:=hown;clear h hB hM hn hdom;go_enter Tryz.func23,Tryz.ntmps23
 go_wp2_with (first
  | (at_range;refine wpList_range_own _ rfl _ 130 rfl 3 9 intK Tryz.underlying130 _ b n D rfl hown ?_;intro w0 hrg0 hg0 hs0)
  | fail)
 go_frame;go_loopw [3] (fun v wr'=>∃left cnt l,v=.int .i64 l∧wr'.ranges Tryz.prog 3 (plainElem Tryz.prog 9) b w.heap.size n D left cnt∧Lst B left l∧Below w.heap.size w wr') (fun _ wr'=>wr'.rangeLeft b w.heap.size)
 case atStart=>exact ⟨_,_,_,rfl,hrg0,Lst.start HM.out,Below.grown (Below.refl _ _) hg0 (Nat.le_refl _) (fun j hj=>by cases hj)⟩
 case round=>
  obtain ⟨left,cnt,l,rfl,hrg,hL,hbw⟩:=hrel;have HL:Hid (Lst B left l):=hL;have HB:Hid (Below w.heap.size w wr):=hbw;have l1:=hL.lo;have l2:=hL.hi;clear hL hbw
  go_wp2_with (first
   | (at_next;refine wpList_next_ranges_is _ rfl _ rfl 3 9 .i64 intK Tryz.underlying3 Tryz.underlying9 b w.heap.size n D left cnt rfl hrg ?_ ?_)
   | fail)
  ·intro hc0 hl0;have hT:=HL.out.fin hl0;have hTl:=top_le B;obtain ⟨T,eT⟩:∃T,top B=T:=⟨_,rfl⟩;have HT:Hid (top B=T):=eT;rw [eT] at hT hTl;have c0':=cell_later HB.out (Nat.le_refl _) c0;have hownr:=hrg.owns;have hs1:=HB.out.size;clear eT hrg
   go_wp2_with (first
    | (at_make;refine wpList_make_full _ rfl _ _ 22 rfl w.heap.size 9 i0 _ 1 Tryz.underlying22 hi hz0 hz1 .i64 .i64 _ _ T rfl rfl rfl rfl (by rw [hz2];omega) (by unfold maxLen;omega) hs1 ?_;intro w1 hrow1 hg1;have c01:w1.cell? ⟨p,0,none⟩=some (.map (some b)):=((Kept.refl (fun _=>False) _).grown hg1 (fun k e _=>by cases e)).cell c0' (fun e=>e);have hs2:=hg1.size)
    | (at_range;refine wpList_range_own _ rfl _ 130 rfl 3 9 intK Tryz.underlying130 _ b n D rfl (hownr.kept hg1 (by simp)) ?_;intro w2 hrg2 hg2 hs3)
    | fail)
   go_frame;have hrow2:=hrow1.kept hg2 (Or.inr (by simp [Value.ownBlock]));have HB2:Hid (Below w.heap.size w w2):=(HB.out.grown hg1 hs1 (fun j hj=>by cases hj)).grown hg2 (by omega) (fun j hj=>by cases hj)
   have HR2:Hid (w2.ownsRow w.heap.size 9 1 (.slice (some ⟨wr.heap.size,0,none⟩) T T) T (cellsS (tx (filled B (Maps.has D)) T))):=by
    rw [filled_start HM.out,cellsS,List.map_replicate];have:=hrow2;rw [show (Value.string ⟨#[]⟩).cells=#[.string ⟨#[]⟩] from rfl,toList_madeCells_one,Nat.mul_one] at this;exact this
   obtain ⟨g,eg⟩:∃g,wr.heap.size=g:=⟨_,rfl⟩;obtain ⟨r,er⟩:∃r,w1.heap.size=r:=⟨_,rfl⟩;rw [eg] at HR2;rw [er] at hrg2;rw [eg,er]
   have hgr:g<r:=by
    have:=(hrow1.lt wr.heap.size rfl).2;omega
   have hwg:w.heap.size≤g:=by omega
   clear hrow1 hrow2 hg1 hg2 hs2 hs3 c0' c01 hownr er eg hs1;go_loopw [] (fun wr'=>∃left cnt,wr'.ranges Tryz.prog 3 (plainElem Tryz.prog 9) b r n D left cnt∧wr'.ownsRow w.heap.size 9 1 (.slice (some ⟨g,0,none⟩) T T) T (cellsS (tx (filled B left) T))∧Below w.heap.size w wr') (fun wr'=>wr'.rangeLeft b r)
   case atStart=>exact ⟨_,_,hrg2,HR2.out,HB2.out⟩
   case round=>
    obtain ⟨left2,cnt2,hrg,hrow,hbw⟩:=hrel;have HRW:Hid (wr.ownsRow w.heap.size 9 1 (.slice (some ⟨g,0,none⟩) T T) T (cellsS (tx (filled B left2) T))):=hrow;have HBW:Hid _:=hbw;clear hrow hbw
    go_wp2_with (first
     | (at_next;refine wpList_next_ranges_is _ rfl _ rfl 3 9 .i64 intK Tryz.underlying3 Tryz.underlying9 b r n D left2 cnt2 rfl hrg ?_ ?_)
     | fail)
    ·intro hc0 hl0;go_wp2
     go_ret;refine ⟨_,rfl,?_,HBW.out⟩;have:=HRW.out;rw [filled_fin B left2 hl0] at this;unfold RwS im;rw [tx_length,HT.out];exact this
    ·intro y c w' cnt' hwy hwc hly hat hrg' hlt hgr' hsz hen
     have hy:(B y).size≠0∧c=B y:=by
      obtain ⟨y',e,hz,hz'⟩:=HM.out.keys _ (has_true_of_atKey hat);cases e
      refine ⟨hz,?_⟩;have:=hz' (.lit (.bool true));rw [hat] at this;exact el_inj this
     have hd:=HDOM.out.at' y hy.1;have HC:Hid (c=B y):=hy.2
     have hyT:y<(T:Int):=by
      have h1:=hd.2;rcases Nat.lt_or_ge y.toNat (top B) with hlt | hge
      ·rw [HT.out] at hlt;omega
      ·have:=topn_above B 2048 y.toNat hge (by omega);rw [show ((y.toNat:Nat):Int)=y by omega] at this;exact absurd this hy.1
     obtain ⟨k,rfl⟩:∃k:Nat,y=(k:Int):=⟨y.toNat,by omega⟩;have hrow':w'.ownsRow w.heap.size 9 1 (.slice (some ⟨g,0,none⟩) T T) T (cellsS (tx (filled B left2) T)):=World.ownsRow.kept HRW.out hgr' (Or.inr (by simp [Value.ownBlock];omega));have hkT:k<T:=by omega
     have hcl:w'.cell? ⟨g,k,none⟩=some (.string ((tx (filled B left2) T).getD k ⟨#[]⟩)):=by rw [hrow'.cellAt k (by omega)];exact cellsS_get _ k (by simpa using hkT)
     have hfz:=hrow'.frozenAt k;have HST:Hid _:=hrow'.stored k (.string c);have k1:(0:Int)≤(k:Int):=by omega
     have hk8:k<2048:=by omega
     have hrg3:=hrg'.kept (hrow'.stored k (.string c)).2 (by simp;have:=hrg.owns.lt;omega) (by simp;omega);have hBW':Below w.heap.size w w':=HBW.out.grown hgr' HBW.out.size (fun j hj=>by cases hj;omega);have HBW':Hid _:=hBW'.grown (hrow'.stored k (.string c)).2 hBW'.size (fun j hj=>by cases hj;exact hwg);clear hat hd hwy hrow' hy hBW';go_wp2
     go_roundw
     case rel=>
      refine ⟨_,cnt',hrg3,?_,HBW'.out⟩;have:=HST.out.1;rw [cellsS_set] at this;rw [filled_step B left2 (k:Int) (by omega),←HC.out];exact this
     case measure=>rw [hrg3.left_eq,hrg.left_eq];exact hlt
  ·intro y c w' cnt' hwy hwc hly hat hrg' hlt hgr hsz hen
   have hy:(B y).size≠0:=by
    obtain ⟨y',e,hz,_⟩:=HM.out.keys _ (has_true_of_atKey hat);cases e;exact hz
   have hd:=HDOM.out.at' y hy;have HLS:Hid _:=HL.out.step HDOM.out hy _ rfl;have y1:=hd.1;have y2:=hd.2;clear hat hd hwy;by_cases hmx:l<y
   ·have em:max l y=y:=by omega
    rw [em] at HLS;go_wp2
    go_roundw
    case rel=>exact ⟨_,cnt',y,rfl,hrg',HLS.out,HB.out.grown hgr HB.out.size (fun j hj=>by cases hj;exact Nat.le_refl _)⟩
    case measure=>rw [hrg'.left_eq,hrg.left_eq];exact hlt
   ·have em:max l y=l:=by omega
    rw [em] at HLS;have dmx:decide (l<y)=false:=by simp;omega
    go_wp2
    go_roundw
    case rel=>exact ⟨_,cnt',l,rfl,hrg',HLS.out,HB.out.grown hgr HB.out.size (fun j hj=>by cases hj;exact Nat.le_refl _)⟩
    case measure=>rw [hrg'.left_eq,hrg.left_eq];exact hlt
end Go.Proofs.YtoimkngkcliinaaGreatDoor.Jr.Dk
