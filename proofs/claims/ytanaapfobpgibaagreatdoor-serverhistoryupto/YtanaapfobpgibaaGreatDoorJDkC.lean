/- DkC, DkD, joined. -/
import Derived.Test.YtanaapfobpgibaaGreatDoorJDkMath
import Derived.Shelf.SlMaps.Clone
import Derived.Laws.Cover3
open Go.Proofs.Tryz
set_option maxHeartbeats 2000000
namespace Go.Proofs.YtanaapfobpgibaaGreatDoor.Jr.Dk
open Go.RowKit Go.Maps
set_option linter.unusedVariables false
set_option maxRecDepth 4000
set_option linter.unusedSimpArgs false
variable {N b m p:Nat} {w:World} {s:St} {x:Value}
theorem Dk.wrote {w1 w2:World} {r cap:Nat} {at':Int} {t:ByteArray} (h:Dk N w p s b m x) (hg:Gp (at',t))
  (hm:Mp w1 b (2048+s.log.length+1) (my s.bl at' t)) (hk:Kept (fun k=>k=b) w w1) (o:Obj) (hgr:(w1.alloc o).grownBy w2 x.ownBlock)
  (hr:w2.ownsRow N 89 2 (.slice (some ⟨r,0,none⟩) (s.log.length+1) cap) (s.log.length+1) (cU s.log++[.int .i64 at',.string t]))
  (hr2:x.ownBlock=some r∨r=w1.heap.size+1):
  Dk N (w2.setCell ⟨p,2,none⟩ (.slice (some ⟨r,0,none⟩) (s.log.length+1) cap)) p ⟨s.mX,s.log++[(at',t)],s.left⟩ b m (.slice (some ⟨r,0,none⟩) (s.log.length+1) cap)∧
  Kept (Fd p b m x) w (w2.setCell ⟨p,2,none⟩ (.slice (some ⟨r,0,none⟩) (s.log.length+1) cap))∧
  (∀k,Fd p b m (.slice (some ⟨r,0,none⟩) (s.log.length+1) cap) k→Fd p b m x k∨w.heap.size≤k)∧
  w2.heap[p]? =some (.cells #[.map (some b),.map (some m),x,.int .i64 s.left] 81):=by
 have hs:=hk.size;have hpl:=h.plt;have k2:Kept (fun k=>k=b∨x.ownBlock=some k) w w2:=((hk.mono (F':=fun k=>k=b∨x.ownBlock=some k) (fun _ _ e=>.inl e)).alloc o).grown hgr (fun k e _=>.inr e);have k12:Kept (fun k=>x.ownBlock=some k) w1 w2:=((Kept.refl (fun k=>x.ownBlock=some k) w1).alloc o).grown hgr (fun k e _=>e)
 have F_:¬(p=b∨x.ownBlock=some p):=fun e=>by
  rcases e with e | e
  ·exact h.pb e
  ·exact (h.px p e).1 rfl
 have Dd:r≠p:=by
  rcases hr2 with e | e
  ·exact (h.px r e).1
  ·omega
 have hblk:=(k2.block p hpl F_).trans h.blk;have ks:Kept (fun k=>k=p) w2 (w2.setCell ⟨p,2,none⟩ (.slice (some ⟨r,0,none⟩) (s.log.length+1) cap)):=(Kept.refl (fun k=>k=p) w2).setCell (p:=⟨p,2,none⟩) (fun _=>rfl) _;have hb2:Mp w2 b (2048+s.log.length+1) (my s.bl at' t):=hm.kept k12 (fun e=>(h.px b e).2.1 rfl)
 have Sn:Mp w2 m 2048 (kY s.mX):=h.mm.kept k2 (fun e=>by
  rcases e with e | e
  ·exact h.ne e.symm
  ·exact (h.px m e).2.2.1 rfl)
 have hbl:(St.mk s.mX (s.log++[(at',t)]) s.left).bl=my s.bl at' t:=by simp [St.bl,Tp]
 refine ⟨⟨?_,?_,Sn.kept ks (fun e=>h.pm e.symm),?_,h.ne,h.np,h.nb,h.nm,⟨h.ok.i1,h.ok.i2,?_,h.ok.p1,h.ok.p2⟩⟩,?_,?_,hblk⟩
 ·rw [jc hblk];simp
 ·rw [hbl];have:=hb2.kept ks (fun e=>h.pb e.symm)
  simpa [Nat.add_assoc] using this
 ·have e1:cU s.log++[.int .i64 at',.string t]=cU (s.log++[(at',t)]):=by rw [yh];rfl
  rw [e1] at hr;have:=ks.row hr (fun k e e'=>by cases e;exact Dd e');unfold Sz
  simpa using this
 ·intro q hq;rcases List.mem_append.1 hq with hq | hq
  ·exact h.ok.l1 q hq
  ·simp at hq;subst hq;exact hg
 ·refine (k2.mono ?_).setCell (fun _=>.inl rfl) _;intro k _ e;rcases e with e | e
  ·exact .inr (.inl e)
  ·exact .inr (.inr (.inr e))
 ·intro k Mg;rcases Mg with e | e | e | e
  ·exact .inl (.inl e)
  ·exact .inl (.inr (.inl e))
  ·exact .inl (.inr (.inr (.inl e)))
  ·cases e
   rcases hr2 with e | e
   ·exact .inl (.inr (.inr (.inr e)))
   ·exact .inr (by show w.heap.size≤r;omega)
def bY (N:Nat) (w:World) (p:Nat) (s:St) (b m:Nat) (x:Value) (w':World):Prop:=∃x',Dk N w' p s b m x'∧Kept (Fd p b m x) w w'∧(∀k,Fd p b m x' k→Fd p b m x k∨w.heap.size≤k)
theorem Dk.same (h:Dk N w p s b m x):bY N w p s b m x w:=⟨x,h,Kept.refl _ _,fun k hk=>.inl hk⟩
theorem rE (N:Nat) (w:World) (p:Nat) (s:St) (b m:Nat) (x:Value) (h:Dk N w p s b m x) (at':Int) (t:ByteArray) (hw:(Lit.int .i64 at').wf=true) (ht:t.size≤9223372036854775807) (hl:s.log.length+1≤5864062014805) (hN:N≤w.heap.size):
  Calls prog 123 #[.pointer (some ⟨p,0,none⟩),.int .i64 at',.string t] w fun e w'=>e=.returned (.int .i64 (we s.left at' t))∧bY N w p (nx s at' t) b m x w':=by
 have hr:=Cx N w p s b m x h at';by_cases hz:rf s.left at'=0
 ·rw [hz] at hr;by_cases h32:t.size≤32
  ·have gZ:s.left≠0:=fun e=>by simp [rf,e] at hz
   have hpl:¬(at'<0∨2048≤at'):=fun e=>by simp [rf,gZ,e] at hz
   have hg:Gp (at',t):=⟨by show 0≤at';omega,by show at'<2048;omega,h32⟩;have Po:we s.left at' t=0:=zJ gZ hg;have Wq:nx s at' t=⟨s.mX,s.log++[(at',t)],nl s.left⟩:=by unfold nx;rw [if_pos Po]
   rw [Po,Wq];obtain ⟨i0,hi,hz0,hz1,hz2⟩:=info_parts Wf;obtain ⟨a0,jG,rfl⟩:=h.spell;have c0:=h.c0;have hput:=uB b _ at' t _ w h.mb (by omega) hw h32;have HD:Hid (Dk N w p s b m (.slice a0 s.log.length jG)):=h;obtain ⟨n,hn⟩:∃n,s.log.length=n:=⟨_,rfl⟩;obtain ⟨l,hl0⟩:∃l,s.left=l:=⟨_,rfl⟩;have Ms:Hid (s.log.length=n):=hn;have HL':Hid (s.left=l):=hl0;have zh:=h.ok.p1;have iJ:=h.ok.p2;rw [hl0] at zh iJ gZ;rw [hn] at hl hput;clear h hz Po Wq hpl;have d32:decide ((t.size:Int)>32)=false:=by simp;omega
   go_enter func123,ntmps123;go_wp2_with fail
   refine hr.mono ?_;rintro e w' ⟨rfl,rfl⟩;clear hr;go_wp2_with fail
   refine hput.mono ?_;rintro e w1 ⟨rfl,IL,mj⟩;clear hput;have c2:=mj.cell HD.out.c2 HD.out.pb;have c3:=mj.cell HD.out.c3 HD.out.pb;rw [hn] at c2;rw [hl0] at c3;have HM1:Hid (Mp w1 b (2048+n+1) (my s.bl at' t)):=IL;have HK1:Hid (Kept (fun k=>k=b) w' w1):=mj
   have HRW:Hid (w1.ownsRow N 89 2 (.slice a0 n jG) n (cU s.log)):=by
    have:=mj.row HD.out.row (fun k e e'=>(HD.out.px k e).2.1 e');rw [hn] at this;exact this
   have hs1:=mj.size;clear IL mj c0 hn hl0;go_wp2_with (at_builtin;refine wpList_append_lies _ rfl _ _ _ rfl N 89 i0 _ 2 24 underlying47 hi hz0 hz1 hz2 rfl (by omega) _ n (cU s.log) rfl (HRW.out.alloc _) ⟨w1.heap.size,0,none⟩ 1 1 [.int .i64 at',.string t] rfl rfl (DW _ _ _ _ _ rfl) (by simp [Value.oneCell']) (by omega) (by unfold maxLen;omega) (by omega) (by simp;omega) (w1.heap.size+1) (by simp) ?_;intro r aS w2 hown2 hgrow2 Gh PD;have HW:=HD.out.wrote (r:=r) (cap:=aS) hg (by rw [Ms.out];exact HM1.out) HK1.out _ (by rw [Ms.out];exact hgrow2) (by rw [Ms.out];exact hown2) (by rw [Ms.out];exact Gh);rw [Ms.out] at HW;have e2:w2.cell? ⟨p,2,none⟩=some (.slice a0 n jG):=(by simp [World.cell?,HW.2.2.2]);have f2:w2.frozen? ⟨p,2,none⟩=false:=(by simp [World.frozen?,HW.2.2.2]);have e3:w2.cell? ⟨p,3,none⟩=some (.int .i64 l):=(by simp [World.cell?,HW.2.2.2,HL'.out]);have f3:w2.frozen? ⟨p,3,none⟩=false:=(by simp [World.frozen?,HW.2.2.2]);have HW':Hid _:=HW;clear HW hown2 hgrow2 Gh PD)
   ·rename_i hl1
    have Uq:l≠-1:=by simpa using hl1
    have e:nl s.left=l - 1:=by rw [HL'.out];unfold nl;rw [if_neg Uq]
    go_ret;rw [e,Ms.out];exact ⟨rfl,_,HW'.out.1.VW (l - 1) (by omega) (by omega),HW'.out.2.1.setCell (p:=⟨p,3,none⟩) (fun _=>.inl rfl) _,HW'.out.2.2.1⟩
   ·rename_i hl1
    have Uq:l=-1:=by simpa using hl1
    have e:nl s.left=s.left:=by rw [HL'.out];unfold nl;rw [if_pos Uq,Uq]
    go_ret;rw [e,Ms.out];exact ⟨rfl,_,HW'.out.1,HW'.out.2.1,HW'.out.2.2.1⟩
  ·have d32:decide ((t.size:Int)>32)=true:=by simp;omega
   have gZ:s.left≠0:=fun e=>by simp [rf,e] at hz
   have hpl:¬(at'<0∨2048≤at'):=fun e=>by simp [rf,gZ,e] at hz
   have Po:we s.left at' t=9:=by unfold we;rw [if_neg gZ,if_neg hpl,if_pos (by omega)]
   have Wq:nx s at' t=s:=by unfold nx;rw [if_neg (by rw [Po];decide)]
   rw [Po,Wq];have HD:Hid (bY N w p s b m x w):=h.same;clear h Po Wq;go_enter func123,ntmps123;go_wp2_with fail
   refine hr.mono ?_;rintro e w' ⟨rfl,rfl⟩;go_wp2
   go_ret;exact ⟨rfl,HD.out⟩
 ·have Po:we s.left at' t=rf s.left at':=by
   unfold rf at hz ⊢;unfold we;split
   ·rfl
   ·split
    ·rfl
    ·rename_i h1 h2;rw [if_neg h1,if_neg h2] at hz;exact absurd rfl hz
  have Wq:nx s at' t=s:=by unfold nx;rw [if_neg (by rw [Po];exact hz)]
  rw [Po,Wq];have HD:Hid (bY N w p s b m x w):=h.same;clear h Po Wq;obtain ⟨r,Sj⟩:∃r,rf s.left at'=r:=⟨_,rfl⟩;rw [Sj] at hr hz ⊢;clear Sj;go_enter func123,ntmps123;go_wp2_with fail
  refine hr.mono ?_;rintro e w' ⟨rfl,rfl⟩;go_wp2
  go_ret;exact ⟨rfl,HD.out⟩
/- A copy of a list of writes. -/
theorem UY (w:World) (a:Option Addr) (l c:Nat):(binOp .eql 47 (.slice a l c) (.slice none 0 0)).run prog w=.ok (.bool a.isNone) w:=by
 simp only [binOp];simp [run_equal_slice_nil w 47 89 a l c underlying47]
def WZ (w:World) (v:Value) (L:List (Int×ByteArray)):Prop:=(v=.slice none 0 0∧L=[])∨∃g o cap,v=.slice (some ⟨g,o,none⟩) L.length cap∧Z6 w (some ⟨g,o,none⟩) L
theorem Sz.list {v:Value} {L:List (Int×ByteArray)} (h:Sz w N v L):WZ w v L:=by
 rcases h.2 with ⟨h0,h1⟩ | ⟨g,cap,cur,hv,_⟩
 ·exact .inl ⟨h0,List.length_eq_zero_iff.1 h1⟩
 ·subst hv;exact .inr ⟨g,0,cap,rfl,h.rd⟩
theorem Ku (w1:World) (t z:Nat):(w1.alloc (.cells #[] t)).ownsRow w1.heap.size t z (.slice (some ⟨w1.heap.size,0,none⟩) 0 0) 0 []:=
 ⟨by simp,Or.inr ⟨w1.heap.size,0,#[],rfl,Nat.le_refl _,heap_alloc_new w1 _,Nat.le_refl _,Nat.zero_le _,by simp,by simp⟩⟩
theorem LM (v:Value) (L:List (Int×ByteArray)) (w:World) (h:WZ w v L) (hl:L.length≤5864062014805):Calls prog 20 #[v] w fun e w'=>∃v',e=.returned v'∧Sz w' w.heap.size v' L∧Below w.heap.size w w':=by
 obtain ⟨i0,hi,hz0,hz1,hz2⟩:=info_parts Wf;have hq:=UY;rcases h with ⟨rfl,rfl⟩ | ⟨g,o,cap,rfl,hr⟩
 ·go_enter func20,ntmps20;go_wp2
  go_ret;exact ⟨_,rfl,World.ownsRow_nil _ _ _ _,Below.refl _ _⟩
 ·have Ev:Hid _:=Ku w 89 2;have HNW:Hid _:=(hr.later (aX w (.cells #[] 89))).news;obtain ⟨n,hn⟩:∃n,L.length=n:=⟨_,rfl⟩;have Ms:Hid (L.length=n):=hn;have HCL:Hid ((cU L).length=n * 2):=by rw [oN,hn];exact rfl
  have hb:=aX w (.cells #[] 89);have HB:Hid _:=hb;rw [hn] at hl ⊢;clear hr hn hb;by_cases h0:n=0
  ·have H0:Hid (n=0):=h0;clear h0;go_enter func20,ntmps20;go_wp2_with (at_builtin;refine wpList_append_fits _ rfl _ _ _ rfl w.heap.size 89 i0 2 underlying47 hi hz1 w.heap.size 0 0 [] rfl Ev.out ⟨g,o,none⟩ n cap (cU L) rfl HCL.out HNW.out (xc _) (by have:=H0.out;omega) ?_;intro w2 hown2 hgrow2;rw [Nat.zero_add,List.nil_append] at hown2;have SE:Hid _:=hown2;have iP:Hid _:=hgrow2;clear hown2 hgrow2)
   go_ret;refine ⟨_,rfl,?_,?_⟩
   ·unfold Sz;rw [Ms.out];exact SE.out
   ·exact HB.out.grown iP.out HB.out.size (fun j hj=>by cases hj;exact Nat.le_refl _)
  ·have WI:0<n:=by omega
   go_enter func20,ntmps20;go_wp2_with (at_builtin;refine wpList_append_lies _ rfl _ _ _ rfl w.heap.size 89 i0 _ 2 24 underlying47 hi hz0 hz1 hz2 rfl (by omega) _ 0 [] rfl Ev.out ⟨g,o,none⟩ n cap (cU L) rfl HCL.out HNW.out (xc _) WI (by unfold maxLen;omega) (by omega) (by simp) (w.heap.size+1) (by simp) ?_;intro g2 dc w2 hown2 hgrow2 Gh PD;rw [Nat.zero_add,List.nil_append] at hown2;have SE:Hid _:=hown2;have iP:Hid _:=hgrow2;clear hown2 hgrow2 Gh PD)
   go_ret;refine ⟨_,rfl,?_,?_⟩
   ·unfold Sz;rw [Ms.out];exact SE.out
   ·exact HB.out.grown iP.out HB.out.size (fun j hj=>by cases hj;exact Nat.le_refl _)
/- A copy of a map. -/
theorem EK (N:Nat) (w:World) (p:Nat) (s:St) (b m:Nat) (x:Value) (h:Dk N w p s b m x) (hl:s.log.length≤5864062014805):Calls prog 9 #[.pointer (some ⟨p,0,none⟩)] w fun e w'=>∃v',e=.returned v'∧Sz w' w.heap.size v' s.log∧Below w.heap.size w w':=by
 have c2:=h.c2;have hc:=LM x s.log w h.row.list hl;clear h;go_enter func9,ntmps9;go_wp2_with fail
 refine hc.mono ?_;rintro e w' ⟨v',rfl,hr,hb⟩;go_wp2
 go_ret;exact ⟨_,rfl,hr,hb⟩
/- The greatest place so far. -/
variable {B:Bl} {D:DataW Unit} {l:Int}
structure SA (B:Bl) (left:Lit→Bool) (l:Int):Prop where
 lo: -1≤l
 hi:l<2048
 at':l=-1∨(B l).size≠0
 rest:∀x,(B x).size≠0→left (.int .i64 x)=true∨x≤l
theorem SA.start (h:jL D B):SA B (Maps.has D) (-1):=⟨by omega,by omega,.inl rfl,fun x hx=>.inl (h.has x hx)⟩
theorem sV (x y:Int):(Lit.int .i64 x).sameKey (.int .i64 y)=decide (x=y):=by
 by_cases e:x=y
 ·subst e;simp [Lit.sameKey]
 ·rw [Maps.sameKey_ne (fun h=>e (by cases h;rfl))];simp [e]
theorem SA.step {left:Lit→Bool} {x:Int} (h:SA B left l) (hB:My B) (hx:(B x).size≠0) (n:Int) (hn:n=max l x):SA B (fun z=>left z&& !z.sameKey (.int .i64 x)) n:=by
 have d:=hB.at' x hx;have h1:=h.lo;have h2:=h.hi;refine ⟨by omega,by omega,?_,fun y hy=>?_⟩
 ·rcases h.at' with e | e
  ·right;have:n=x:=by omega
   rw [this];exact hx
  ·right
   by_cases hlx:l≤x
   ·have:n=x:=by omega
    rw [this];exact hx
   ·have:n=l:=by omega
    rw [this];exact e
 ·by_cases e:y=x
  ·right;omega
  ·rcases h.rest y hy with hl | hl
   ·left;simp [hl,sV,e]
   ·right;omega
theorem SA.fin {left:Lit→Bool} (h:SA B left l) (hl:∀kl,left kl=false):l+1=(top B:Int):=by
 have h1:=h.lo;have h2:=h.hi
 have e:top B=(l+1).toNat:=by
  refine MN (by omega) ?_ (fun i hi PS=>?_)
  ·rcases h.at' with e | e
   ·left;omega
   ·right;rw [show (((l+1).toNat:Nat):Int) - 1=l by omega];exact e
  ·by_cases hz:(B (i:Int)).size=0
   ·exact hz
   ·rcases h.rest _ hz with h' | h'
    ·rw [hl] at h';cases h'
    ·omega
 omega
/- Texts that are filled in. -/
def filled (B:Bl) (left:Lit→Bool):Bl:=fun x=>if left (.int .i64 x)=true then ⟨#[]⟩ else B x
theorem A6 (h:jL D B) (n:Nat):tx (filled B (Maps.has D)) n=List.replicate n ⟨#[]⟩:=by
 apply List.ext_getElem
 ·simp
 ·intro i h1 h2;simp only [tx,List.getElem_map,List.getElem_range,List.getElem_replicate,filled];split
  ·rfl
  ·rename_i hh
   by_cases hz:(B (i:Int)).size=0
   ·exact FJ hz
   ·exact absurd (h.has _ hz) hh
theorem DF (B:Bl) (left:Lit→Bool) (x:Int) (h0:0≤x) (n:Nat):tx (filled B (fun z=>left z&& !z.sameKey (.int .i64 x))) n=(tx (filled B left) n).set x.toNat (B x):=by
 apply List.ext_getElem
 ·simp
 ·intro i h1 h2;simp only [tx,List.getElem_map,List.getElem_range,List.getElem_set,filled,sV];by_cases e:x.toNat=i
  ·have e':(i:Int)=x:=by omega
   simp [e,e']
  ·have e':¬(i:Int)=x:=by omega
   simp [e,e']
theorem Gx (B:Bl) (left:Lit→Bool) (hl:∀kl,left kl=false) (n:Nat):tx (filled B left) n=tx B n:=by
 have:filled B left=B:=by funext x;simp [filled,hl]
 rw [this]
theorem Le (N:Nat) (w:World) (p:Nat) (s:St) (b m:Nat) (x:Value) (h:Dk N w p s b m x) (hl:s.log.length≤5864062014805):Calls prog 60 #[.pointer (some ⟨p,0,none⟩)] w fun e w'=>∃v',e=.returned v'∧ym w' w.heap.size v' (im s.bl)∧Below w.heap.size w w':=by
 have c0:=h.c0;have hpl:=h.plt;obtain ⟨i0,hi,hz0,hz1,hz2⟩:=info_parts IG;obtain ⟨D,hown,hM⟩:=h.mb;have abl:=h.ok.dom;have Vx:Hid (My s.bl):=abl;obtain ⟨B,hB⟩:∃B,s.bl=B:=⟨_,rfl⟩;obtain ⟨n,hn⟩:∃n,2048+s.log.length=n:=⟨_,rfl⟩;rw [hB] at hM Vx ⊢;rw [hn] at hown;have HM:Hid (jL D B):=hM;have ad2:=h.mb.lt;have hown:w.ownsMap prog 3 (plainElem prog 9) b n D:=hown;clear h hB hM hn abl;go_enter func60,ntmps60
 go_wp2_with (first
  | (at_range;refine wpList_range_own _ rfl _ 79 rfl 3 9 Ld underlying79 _ b n D rfl hown ?_;intro w0 hrg0 hg0 hs0)
  | fail)
 go_frame;go_loopw [3] (fun v wr'=>∃left cnt l,v=.int .i64 l∧wr'.ranges prog 3 (plainElem prog 9) b w.heap.size n D left cnt∧SA B left l∧Below w.heap.size w wr') (fun _ wr'=>wr'.rangeLeft b w.heap.size)
 case atStart=>exact ⟨_,_,_,rfl,hrg0,SA.start HM.out,Below.grown (Below.refl _ _) hg0 (Nat.le_refl _) (fun j hj=>by cases hj)⟩
 case round=>
  obtain ⟨left,cnt,l,rfl,hrg,hL,dZ⟩:=hrel;have HL:Hid (SA B left l):=hL;have HB:Hid (Below w.heap.size w wr):=dZ;have l1:=hL.lo;have l2:=hL.hi;clear hL dZ
  go_wp2_with (first
   | (at_next;refine wpList_next_ranges_is _ rfl _ rfl 3 9 .i64 Ld underlying3 underlying9 b w.heap.size n D left cnt rfl hrg ?_ ?_)
   | fail)
  ·intro hc0 hl0;have hT:=HL.out.fin hl0;have Gj:=zS B;obtain ⟨T,eT⟩:∃T,top B=T:=⟨_,rfl⟩;have HT:Hid (top B=T):=eT;rw [eT] at hT Gj;have c0':=cell_later HB.out (Nat.le_refl _) c0;have Wo:=hrg.owns;have hs1:=HB.out.size;clear eT hrg
   go_wp2_with (first
    | (at_make;refine wpList_make_full _ rfl _ _ 114 rfl w.heap.size 9 i0 _ 1 underlying114 hi hz0 hz1 .i64 .i64 _ _ T rfl rfl rfl rfl (by rw [hz2];omega) (by unfold maxLen;omega) hs1 ?_;intro w1 Pu hg1;have c01:w1.cell? ⟨p,0,none⟩=some (.map (some b)):=((Kept.refl (fun _=>False) _).grown hg1 (fun k e _=>by cases e)).cell c0' (fun e=>e);have hs2:=hg1.size)
    | (at_range;refine wpList_range_own _ rfl _ 79 rfl 3 9 Ld underlying79 _ b n D rfl (Wo.kept hg1 (by simp)) ?_;intro w2 hrg2 hg2 hs3)
    | fail)
   go_frame;have hrow2:=Pu.kept hg2 (Or.inr (by simp [Value.ownBlock]));have bm:Hid (Below w.heap.size w w2):=(HB.out.grown hg1 hs1 (fun j hj=>by cases hj)).grown hg2 (by omega) (fun j hj=>by cases hj)
   have El:Hid (w2.ownsRow w.heap.size 9 1 (.slice (some ⟨wr.heap.size,0,none⟩) T T) T (bW (tx (filled B (Maps.has D)) T))):=by
    rw [A6 HM.out,bW,List.map_replicate];have:=hrow2;rw [show (Value.string ⟨#[]⟩).cells=#[.string ⟨#[]⟩] from rfl,toList_madeCells_one,Nat.mul_one] at this;exact this
   obtain ⟨g,eg⟩:∃g,wr.heap.size=g:=⟨_,rfl⟩;obtain ⟨r,er⟩:∃r,w1.heap.size=r:=⟨_,rfl⟩;rw [eg] at El;rw [er] at hrg2;rw [eg,er]
   have hgr:g<r:=by
    have:=(Pu.lt wr.heap.size rfl).2;omega
   have hwg:w.heap.size≤g:=by omega
   clear Pu hrow2 hg1 hg2 hs2 hs3 c0' c01 Wo er eg hs1;go_loopw [] (fun wr'=>∃left cnt,wr'.ranges prog 3 (plainElem prog 9) b r n D left cnt∧wr'.ownsRow w.heap.size 9 1 (.slice (some ⟨g,0,none⟩) T T) T (bW (tx (filled B left) T))∧Below w.heap.size w wr') (fun wr'=>wr'.rangeLeft b r)
   case atStart=>exact ⟨_,_,hrg2,El.out,bm.out⟩
   case round=>
    obtain ⟨y5,cnt2,hrg,hrow,dZ⟩:=hrel;have HRW:Hid (wr.ownsRow w.heap.size 9 1 (.slice (some ⟨g,0,none⟩) T T) T (bW (tx (filled B y5) T))):=hrow;have fE:Hid _:=dZ;clear hrow dZ
    go_wp2_with (first
     | (at_next;refine wpList_next_ranges_is _ rfl _ rfl 3 9 .i64 Ld underlying3 underlying9 b r n D y5 cnt2 rfl hrg ?_ ?_)
     | fail)
    ·intro hc0 hl0;go_wp2
     go_ret;refine ⟨_,rfl,?_,fE.out⟩;have:=HRW.out;rw [Gx B y5 hl0] at this;unfold ym im;rw [J4,HT.out];exact this
    ·intro y c w' cnt' hwy hwc hly hat Lg hlt abh hsz hen
     have hy:(B y).size≠0∧c=B y:=by
      obtain ⟨y',e,hz,hz'⟩:=HM.out.keys _ (has_true_of_atKey hat);cases e
      refine ⟨hz,?_⟩;have:=hz' (.lit (.bool true));rw [hat] at this;exact Zp this
     have hd:=Vx.out.at' y hy.1;have HC:Hid (c=B y):=hy.2
     have hyT:y<(T:Int):=by
      have h1:=hd.2;rcases Nat.lt_or_ge y.toNat (top B) with hlt | BN
      ·rw [HT.out] at hlt;omega
      ·have:=oX B 2048 y.toNat BN (by omega);rw [show ((y.toNat:Nat):Int)=y by omega] at this;exact absurd this hy.1
     obtain ⟨k,rfl⟩:∃k:Nat,y=(k:Int):=⟨y.toNat,by omega⟩;have hrow':w'.ownsRow w.heap.size 9 1 (.slice (some ⟨g,0,none⟩) T T) T (bW (tx (filled B y5) T)):=World.ownsRow.kept HRW.out abh (Or.inr (by simp [Value.ownBlock];omega));have hkT:k<T:=by omega
     have PW:w'.cell? ⟨g,k,none⟩=some (.string ((tx (filled B y5) T).getD k ⟨#[]⟩)):=by rw [hrow'.cellAt k (by omega)];exact xe _ k (by simpa using hkT)
     have hfz:=hrow'.frozenAt k;have HST:Hid _:=hrow'.stored k (.string c);have k1:(0:Int)≤(k:Int):=by omega
     have dA:k<2048:=by omega
     have hrg3:=Lg.kept (hrow'.stored k (.string c)).2 (by simp;have:=hrg.owns.lt;omega) (by simp;omega);have Y9:Below w.heap.size w w':=fE.out.grown abh fE.out.size (fun j hj=>by cases hj;omega);have adE:Hid _:=Y9.grown (hrow'.stored k (.string c)).2 Y9.size (fun j hj=>by cases hj;exact hwg);clear hat hd hwy hrow' hy Y9;go_wp2
     go_roundw
     case rel=>
      refine ⟨_,cnt',hrg3,?_,adE.out⟩;have:=HST.out.1;rw [GK] at this;rw [DF B y5 (k:Int) (by omega),←HC.out];exact this
     case measure=>rw [hrg3.left_eq,hrg.left_eq];exact hlt
  ·intro y c w' cnt' hwy hwc hly hat Lg hlt hgr hsz hen
   have hy:(B y).size≠0:=by
    obtain ⟨y',e,hz,_⟩:=HM.out.keys _ (has_true_of_atKey hat);cases e;exact hz
   have hd:=Vx.out.at' y hy;have HLS:Hid _:=HL.out.step Vx.out hy _ rfl;have y1:=hd.1;have y2:=hd.2;clear hat hd hwy;by_cases hmx:l<y
   ·have em:max l y=y:=by omega
    rw [em] at HLS;go_wp2
    go_roundw
    case rel=>exact ⟨_,cnt',y,rfl,Lg,HLS.out,HB.out.grown hgr HB.out.size (fun j hj=>by cases hj;exact Nat.le_refl _)⟩
    case measure=>rw [Lg.left_eq,hrg.left_eq];exact hlt
   ·have em:max l y=l:=by omega
    rw [em] at HLS;have dmx:decide (l<y)=false:=by simp;omega
    go_wp2
    go_roundw
    case rel=>exact ⟨_,cnt',l,rfl,Lg,HLS.out,HB.out.grown hgr HB.out.size (fun j hj=>by cases hj;exact Nat.le_refl _)⟩
    case measure=>rw [Lg.left_eq,hrg.left_eq];exact hlt
end Go.Proofs.YtanaapfobpgibaaGreatDoor.Jr.Dk
