/- Contract: Read. -/
import Derived.Maps.RangeWalk
import Derived.Test.YtoimkngkcliinaaGreatDoorJRcB
import Derived.Test.YtoimkngkcliinaaGreatDoorJPlC
namespace Go.Proofs.YtoimkngkcliinaaGreatDoor.Rc
open Go.RowKit Go.Maps
open Rs (RdI cell_later i64s i64s_length own_other owns_later owns_slice ps infoInt)
open Bt (Rr tb bys tb_length bys_length dn)
set_option linter.unusedVariables false
set_option linter.unusedSimpArgs false
theorem infoRc:(Tryz.prog.info? 94).map (·.size)=some 4:=by kernel_rfl
theorem rc_one (p q:Int) (a b:Option Addr) (l m i j:Nat):(#[.int .i64 p,.int .i64 q,.slice a l i,.slice b m j]:Array Value).all (·.oneCell')=true:=by simp [Value.oneCell']
theorem results_rc {fn:Func} {p t:Tmp} (hf:fn.results=#[.cell p 94,.tmp t]) (tmps:Array Value) (W:World) (B:Nat) (cs:Array Value) (hp:tmps[p]? =some (.pointer (some ⟨B,0,none⟩))) (hb:RcAt W B cs) (hc:cs.size=4):
  (results fn tmps).run Tryz.prog W=.ok (.tuple #[.agg cs,tmps.getD t undef]) W:=by
 have h:=run_loadVar_row W B _ 94 _ _ _ hb Tryz.underlying94 rfl (by rw [hc];exact infoRc);simp [results,hf,hp,asAddr,h]
theorem rdI_of {W:World} {b:Nat} {a:Option Addr} {cap:Nat} {l:List Int} (h:W.ownsRow b 3 1 (.slice a l.length cap) l.length (i64s l)):RdI W a l:=by
 rcases h.2 with ⟨e,h0⟩ | ⟨g,cap',cur,e,h3,h4,h5,h6,h7,h8⟩
 ·intro i hi;omega
 ·cases e
  intro i hi;refine ⟨g,0,rfl,?_⟩;rw [Nat.zero_add,h.cellAt i (by omega)];simp [Rs.i64s,hi]
theorem rdP_of {W:World} {b:Nat} {a:Option Addr} {cap:Nat} {l:List (Int×Int)} (h:W.ownsRow b 165 2 (.slice a l.length cap) l.length (ps l)):RdP W a l:=by
 obtain ⟨a',cap',e,hr,_⟩:=Rs.owns_rd h;cases e
 intro i hi;obtain ⟨b,e,c0,c1⟩:=hr i hi;exact ⟨b,0,e,by rw [Nat.zero_add];exact c0,by rw [Nat.zero_add];exact c1⟩
section
variable {w W W':World} {R g K A n0:Nat} {p p':Nat×Bool} {s:ByteArray} {e f:Int} {vL vJ v':Value} {L:List Int} {J:List (Int×Int)}
theorem RS.appL (h:RS w W R g K A n0 p s e f vL vJ L J) {y:Int} (hown:W'.ownsRow n0 3 1 v' (L++[y]).length (i64s (L++[y]))) (hg:W.grownBy W' vL.ownBlock):RcAt W' A #[.int .i64 e,.int .i64 f,vL,vJ]∧RS w (W'.setCell ⟨A,2,none⟩ v') R g K A n0 p s e f v' vJ (L++[y]) J:=by
 obtain ⟨l1,l2,l3,l4⟩:=h.lt;obtain ⟨m1,m2,m3,m4⟩:=h.le;have a1:g≠A:=Ne.symm (block_ne h.rc h.rr.blk (by decide));have a2:K≠A:=Ne.symm (block_ne h.rc h.tk (by decide));have blk:∀k,k<n0→W'.heap[k]? =W.heap[k]? :=fun k hk=>hg.block k (by have:=h.sz;omega) (Rs.row_far h.rl hk)
 have far:∀k,n0≤k→k<W'.heap.size→(W'.setCell ⟨A,2,none⟩ v').heap[k]? =W'.heap[k]? :=fun k hk0 hk1=>Rt.other_setCell (by omega) _ _
 have hrc:RcAt W' A #[.int .i64 e,.int .i64 f,vL,vJ]:=(blk _ l4).trans h.rc;refine ⟨hrc,⟨(Rt.other_setCell a1 _ _).trans ((blk _ l2).trans h.rr.blk),h.rr.le⟩,(Rt.other_setCell a2 _ _).trans ((blk _ l3).trans h.tk),Rt.row_setCell hrc 2 v',(Rt.other_setCell h.ne _ _).trans ((blk _ l1).trans h.rs),Rs.owns_block hown far,Rs.owns_block (own_grown h.rj h.rl (by decide) hg) far,?_,h.ne,h.le,h.lt,?_⟩
 ·refine Below.setCell (p:=⟨A,2,none⟩) ?_ m4 _
  exact Below.grown h.bel hg h.bel.size fun j hj=>by
   rcases Nat.lt_or_ge j n0 with hlt | hge
   ·exact absurd hj.symm (Rs.row_far h.rl hlt)
   ·omega
 ·have:=hg.size;have:=h.sz;simp;omega
theorem RS.appJ (h:RS w W R g K A n0 p s e f vL vJ L J) {y:Int×Int} (hown:W'.ownsRow n0 165 2 v' (J++[y]).length (ps (J++[y]))) (hg:W.grownBy W' vJ.ownBlock):RcAt W' A #[.int .i64 e,.int .i64 f,vL,vJ]∧RS w (W'.setCell ⟨A,3,none⟩ v') R g K A n0 p s e f vL v' L (J++[y]):=by
 obtain ⟨l1,l2,l3,l4⟩:=h.lt;obtain ⟨m1,m2,m3,m4⟩:=h.le;have a1:g≠A:=Ne.symm (block_ne h.rc h.rr.blk (by decide));have a2:K≠A:=Ne.symm (block_ne h.rc h.tk (by decide));have blk:∀k,k<n0→W'.heap[k]? =W.heap[k]? :=fun k hk=>hg.block k (by have:=h.sz;omega) (Rs.row_far h.rj hk)
 have far:∀k,n0≤k→k<W'.heap.size→(W'.setCell ⟨A,3,none⟩ v').heap[k]? =W'.heap[k]? :=fun k hk0 hk1=>Rt.other_setCell (by omega) _ _
 have hrc:RcAt W' A #[.int .i64 e,.int .i64 f,vL,vJ]:=(blk _ l4).trans h.rc;refine ⟨hrc,⟨(Rt.other_setCell a1 _ _).trans ((blk _ l2).trans h.rr.blk),h.rr.le⟩,(Rt.other_setCell a2 _ _).trans ((blk _ l3).trans h.tk),Rt.row_setCell hrc 3 v',(Rt.other_setCell h.ne _ _).trans ((blk _ l1).trans h.rs),Rs.owns_block (own_grown h.rl h.rj (by decide) hg) far,Rs.owns_block hown far,?_,h.ne,h.le,h.lt,?_⟩
 ·refine Below.setCell (p:=⟨A,3,none⟩) ?_ m4 _
  exact Below.grown h.bel hg h.bel.size fun j hj=>by
   rcases Nat.lt_or_ge j n0 with hlt | hge
   ·exact absurd hj.symm (Rs.row_far h.rj hlt)
   ·omega
 ·have:=hg.size;have:=h.sz;simp;omega
end
theorem nsL_next (T:List Bool) (p:Nat×Bool) (k:Nat):inI (nsL T 8 p (k+1))=inI (nsL T 8 p k)++[((nm1 T (nsS T 8 p k) 8).1:Int)]:=by simp [nsL,inI]
theorem psL_next (T:List Bool) (p:Nat×Bool) (k:Nat):inP (psL T p (k+1))=inP (psL T p k)++[(((nm1 T (psS T p k) 8).1:Int),((nm1 T (nm1 T (psS T p k) 8).2 6).1:Int))]:=by simp [psL,inP]
theorem ps_snoc (l:List (Int×Int)) (p:Int×Int):ps (l++[p])=ps l++[.int .i64 p.1,.int .i64 p.2]:=by simp [Rs.ps]
theorem inI_ns (T:List Bool) (p:Nat×Bool) (k:Nat):(inI (nsL T 8 p k)).length=k:=by rw [inI_length,nsL_length]
theorem inP_ps (T:List Bool) (p:Nat×Bool) (k:Nat):(inP (psL T p k)).length=k:=by rw [inP_length,psL_length]
set_option maxRecDepth 100000 in
set_option maxHeartbeats 4000000 in
theorem read_any (s:ByteArray) (w:World) (hs:s.size<1125899906842624):
  Calls Tryz.prog 183 #[.string s] w fun r w'=>RdRec w w' (tb (bys s)) r:=by
 have hS0:=RS.new w s;have HNM:Hid (∀{W:World} {K g:Nat} {p:Nat×Bool} (q:Nat),Rr W g p.1 s→TkAt W K g p.2→1≤q→q≤62→Calls Tryz.prog 241 #[.pointer (some ⟨K,0,none⟩),.int .i64 (q:Int)] W fun e w'=>e=.returned (.int .i64 ((nm1 (tb (bys s)) p q).1:Int))∧Rr w' g (nm1 (tb (bys s)) p q).2.1 s∧TkAt w' K g (nm1 (tb (bys s)) p q).2.2∧Bt.Kept (fun k=>k=g∨k=K) W w'):=fun q hr ht h1 h2=>number_any q hr ht hs h1 h2
 have HWH:Hid (∀{W:World} {K g:Nat} {p:Nat×Bool},Rr W g p.1 s→TkAt W K g p.2→Calls Tryz.prog 242 #[.pointer (some ⟨K,0,none⟩)] W fun e w'=>e=.returned (.bool (!p.2&&dn (tb (bys s)) p.1))∧Below W.heap.size W w'):=fun hr ht=>whole_any hr ht hs
 obtain ⟨T,hT⟩:∃T,tb (bys s)=T:=⟨_,rfl⟩;rw [hT] at HNM HWH;rw [hT];clear hT hs;go_enter Tryz.func183,Tryz.ntmps183;go_upto_region 3 with (go_at_call 206;refine (Bt.read_any s _).mono ?_;rintro r w' ⟨rfl,rfl⟩)
 generalize (((w.alloc (.cells #[.int .i64 0,.int .i64 0,.slice none 0 0,.slice none 0 0] 94)).alloc (.cells #[.int .i64 0,.string s] 383)).alloc (.cells #[.pointer (some ⟨w.heap.size+1,0,none⟩),.bool false] 367)).alloc (.cells #[.int .i64 0,.int .i64 0,.slice none 0 0,.slice none 0 0] 94)=w0 at *;have HN0:Hid (w.heap.size≤w.heap.size+4):=by unfold Hid;omega
 obtain ⟨n0,hn0⟩:∃n,w.heap.size+4=n:=⟨_,rfl⟩;rw [hn0] at hS0 HN0;obtain ⟨A,hA⟩:∃n,w.heap.size+3=n:=⟨_,rfl⟩;obtain ⟨K,hK⟩:∃n,w.heap.size+2=n:=⟨_,rfl⟩;obtain ⟨g,hg⟩:∃n,w.heap.size+1=n:=⟨_,rfl⟩;obtain ⟨R,hR⟩:∃n,w.heap.size=n:=⟨_,rfl⟩;try rw [show w.heap.size+1+1+1=w.heap.size+3 from rfl]
 try rw [show w.heap.size+1+1=w.heap.size+2 from rfl]
 rw [hA,hK,hg,hR] at hS0;rw [hA,hK,hg,hR];clear hn0 hA hK hg hR;have hn:=HNM.out 8 hS0.rr hS0.tk (by omega) (by omega);rw [show nm1 T ((0:Nat),false) 8=e1 T from rfl,show ((e1 T).1:Int)=rEp T from rfl] at hn;go_wp2_with fail
 refine hn.mono ?_;rintro r w1 ⟨rfl,hr1,ht1,hk1⟩;have hS1:=hS0.num hr1 ht1 hk1;obtain ⟨c0,c1,c2,c3⟩:=hS1.rc.cells;have f0:=Rt.row_frozen hS1.rc 0;have hS2:=hS1.set 0 (.int .i64 (rEp T)) rfl hS1.rl hS1.rj;clear hn hS0 hr1 ht1 hk1 hS1;go_upto_region 4 with (fail)
 clear c0 c1 c2 c3 f0;generalize w1.setCell ⟨A,0,none⟩ (.int .i64 (rEp T))=w2 at *;have hn:=HNM.out 16 hS2.rr hS2.tk (by omega) (by omega);rw [show nm1 T (e1 T).2 16=e2 T from rfl,show ((e2 T).1:Int)=rFr T from rfl] at hn;go_wp2_with fail
 refine hn.mono ?_;rintro r w3 ⟨rfl,hr1,ht1,hk1⟩;have hS3:=hS2.num hr1 ht1 hk1;obtain ⟨c0,c1,c2,c3⟩:=hS3.rc.cells;have f0:=Rt.row_frozen hS3.rc 1;have hS4:=hS3.set 1 (.int .i64 (rFr T)) rfl hS3.rl hS3.rj;clear hn hS2 hr1 ht1 hk1 hS3;go_upto_region 5 with (fail)
 clear c0 c1 c2 c3 f0;generalize w3.setCell ⟨A,1,none⟩ (.int .i64 (rFr T))=w4 at *;have hn:=HNM.out 7 hS4.rr hS4.tk (by omega) (by omega);rw [show nm1 T (e2 T).2 7=e3 T from rfl] at hn;go_wp2_with fail
 refine hn.mono ?_;rintro r w5 ⟨rfl,hr1,ht1,hk1⟩;have hS5:=hS4.num hr1 ht1 hk1;have HS5:Hid (RS w w5 R g K A n0 (nsS T 8 (e3 T).2 0) s (rEp T) (rFr T) (.slice none 0 0) (.slice none 0 0) (inI (nsL T 8 (e3 T).2 0)) []):=hS5;clear hn hS4 hr1 ht1 hk1 hS5;have hnl:(e3 T).1<128:=nm1_lt T (e2 T).2 7;obtain ⟨nl,hnle⟩:∃n,(e3 T).1=n:=⟨_,rfl⟩;have HNL:Hid ((e3 T).1=nl):=hnle;rw [hnle] at hnl;rw [hnle];clear hnle;go_wp2_with fail
 go_loopw [16] (fun i wx=>∃k:Nat,k≤nl∧i=.int .i64 (k:Int)∧∃vL,RS w wx R g K A n0 (nsS T 8 (e3 T).2 k) s (rEp T) (rFr T) vL (.slice none 0 0) (inI (nsL T 8 (e3 T).2 k)) []) (fun i _=>nl - (intOf i).toNat)
 case atStart=>exact ⟨0,by omega,rfl,_,HS5.out⟩
 case round=>
  obtain ⟨k,hk,rfl,vL,hS⟩:=hrel;obtain ⟨aL,cL,rfl⟩:=owns_slice hS.rl;have HS:Hid (RS w wr R g K A n0 (nsS T 8 (e3 T).2 k) s (rEp T) (rFr T) (.slice aL (inI (nsL T 8 (e3 T).2 k)).length cL) (.slice none 0 0) (inI (nsL T 8 (e3 T).2 k)) []):=hS;clear hS HS5;have HLEN:Hid ((inI (nsL T 8 (e3 T).2 k)).length=k):=inI_ns T _ k;by_cases hkn:k<nl
  ·have i2:(k:Int)<(nl:Int):=by omega
   have HNX:Hid (inI (nsL T 8 (e3 T).2 (k+1))=inI (nsL T 8 (e3 T).2 k)++[((nm1 T (nsS T 8 (e3 T).2 k) 8).1:Int)]):=nsL_next T _ k;have HNS:Hid (nsS T 8 (e3 T).2 (k+1)=(nm1 T (nsS T 8 (e3 T).2 k) 8).2):=rfl;obtain ⟨l,hl⟩:∃l,inI (nsL T 8 (e3 T).2 k)=l:=⟨_,rfl⟩;obtain ⟨p,hp⟩:∃p,nsS T 8 (e3 T).2 k=p:=⟨_,rfl⟩;rw [hl] at HNX HS HLEN;rw [hp] at HNX HNS HS;clear hl hp;obtain ⟨x,hx⟩:∃x,nm1 T p 8=x:=⟨_,rfl⟩;have hT0:=HS.out.later (drew_below wr);have hn:=HNM.out 8 hT0.rr hT0.tk (by omega) (by omega);rw [hx] at hn HNX HNS;clear hx;go_upto_region 7 with (fail)
   have hHeld:wr.drew.cell? ⟨A,2,none⟩=some (.slice aL l.length cL):=hT0.rc.cells.2.2.1;have HT0:Hid (RS w wr.drew R g K A n0 p s (rEp T) (rFr T) (.slice aL l.length cL) (.slice none 0 0) l []):=hT0;clear hT0 HS;refine Till.region [2,3,4] (fun W=>W.cell? ⟨A,2,none⟩=some (.slice aL l.length cL)) (by kernel_rfl) ?_;refine Till.takeFree (i:=0) (oi:=⟨some 18,Op.fieldAddr 94 (.tmp 5) 2,_,_,_,none⟩) (x:=.pointer (some ⟨A,2,none⟩)) rfl (by decide) (by kernel_rfl) (by kernel_rfl) (by kernel_rfl) (fun _ _ _ h=>h) (Or.inl ⟨by rfl,fun w _=>by go_simp⟩) hHeld ?_;go_frame;refine Till.take (i:=1) 4 (oi:=⟨some 19,Op.load 39 (.tmp 18),_,_,_,none⟩) (x:=(.slice aL l.length cL)) rfl (by decide) (by kernel_rfl) (by decide) (by kernel_rfl) (by kernel_rfl) (by kernel_rfl) (by kernel_rfl) (fun _ _ _ h=>h) (Or.inl ⟨by rfl,fun w hSw=>by (try dsimp only at hSw);go_simp⟩) hHeld ?_;go_frame;refine Till.one (i:=2) (o:=⟨some 20,Op.call {callee:=Callee.value (Operand.func 241),args:=#[.tmp 4,Operand.const (Value.int IntKind.i64 8)],argTypes:=_},_,_,_,none⟩) rfl (by kernel_rfl) (fun K9 hK9=>?_);go_simp
   refine hn.mono ?_;rintro r w2 ⟨rfl,hr2,ht2,hk2⟩;have hS2:=HT0.out.num hr2 ht2 hk2;have HS2:Hid (RS w w2 R g K A n0 x.2 s (rEp T) (rFr T) (.slice aL l.length cL) (.slice none 0 0) l []):=hS2;have hHeld2:=hS2.rc.cells.2.2.1;clear hS2 hr2 ht2 hk2 hn HT0 hHeld;go_wp2_with fail
   refine hK9.out _ _ (fun _=>hHeld2) ?_;clear hK9 K9;try go_frame
   refine Till.one (i:=3) (o:=⟨some 21,Op.buildSlice 39 1 #[(0,.tmp 20)],_,_,_,none⟩) rfl (by kernel_rfl) (fun K9 hK9=>?_);go_simp
   refine hK9.out _ _ (fun _=>cell_alloc_lt hHeld2 _) ?_;clear hK9 K9;try go_frame
   refine Till.one (i:=4) (o:=⟨some 22,Op.call {callee:=Callee.builtin Builtin.append,args:=#[.tmp 19,.tmp 21],argTypes:=_},_,_,_,none⟩) rfl (by kernel_rfl) (fun K9 hK9=>?_);refine appL rfl 22 rfl _ _ rfl n0 (.slice aL l.length cL) l rfl (HS2.out.rl.alloc _) w2.heap.size (x.1:Int) rfl (cell_one_new _ _ _) (by have:=HLEN.out;omega) (by have:=HS2.out.sz;rw [World.size_alloc];omega) ?_;intro v' w7 hown7 hg7;obtain ⟨av,cv,rfl⟩:=owns_slice hown7;have hA7:=(HS2.out.later (below_alloc _ _)).appL hown7 hg7;obtain ⟨z0,z1,z2,z3⟩:=hA7.1.cells;have f7:=Rt.row_frozen hA7.1 2;have HS7:Hid (RS w (w7.setCell ⟨A,2,none⟩ (.slice av (l++[(x.1:Int)]).length cv)) R g K A n0 x.2 s (rEp T) (rFr T) (.slice av (l++[(x.1:Int)]).length cv) (.slice none 0 0) (l++[(x.1:Int)]) []):=hA7.2;clear hg7 hown7 hA7 HS2 hHeld2;refine hK9.out _ _ (fun h=>absurd h (by rintro ⟨c,hc,he⟩;revert hc he;decide+revert)) ?_;clear hK9 K9;try go_frame
   refine Till.rest (by kernel_rfl) ?_;refine wpAny_take (i:=5) (oi:=⟨some 23,Op.fieldAddr 94 (.tmp 5) 2,_,_,_,none⟩) (v:=.pointer (some ⟨A,2,none⟩)) rfl (by kernel_rfl) (by kernel_rfl) (by kernel_rfl) (fun _ _ _ h=>h) (Or.inl ⟨by rfl,fun w=>by go_simp⟩) ?_;go_frame;refine wpAny_ready (rs:=[6]) (by kernel_rfl) (by simp) ?_;refine AllReady.cons (o:=⟨none,Op.store 39 (.tmp 23) (.tmp 22),_,_,_,none⟩) rfl (fun K9 hK9=>?_) AllReady.nil;have HK9:Shut _:=hK9;clear hK9;go_simp
   refine HK9.out _ _ ?_;clear HK9 K9;try go_frame
   refine wpAny_done (by kernel_rfl) ?_ _;go_wp2_with fail
   go_roundw
   case rel=>exact ⟨k+1,by omega,by go_num,_,by have h:=HS7.out;rw [show (l++[(x.1:Int)]).length=l.length+1 by simp] at h;rw [HNX.out,HNS.out];exact h⟩
   case measure=>simp [intOf];omega
  ·have hkn':decide ((k:Int)<(nl:Int))=false:=by simp;omega
   obtain rfl:k=nl:=by omega
   have HS2:Hid (RS w wr R g K A n0 (s4 T) s (rEp T) (rFr T) (.slice aL (rLv T).length cL) (.slice none 0 0) (rLv T) []):=by
    have h:=HS.out;unfold Hid s4 rLv;rw [HNL.out];exact h
   clear HS;obtain ⟨wA,hwA⟩:∃wA,wr=wA:=⟨_,rfl⟩;rw [hwA] at HS2 ⊢;clear hwA;have HLN:Hid ((rLv T).length=k):=by unfold Hid;rw [rLv_length,HNL.out]
   have hn:=HNM.out 7 HS2.out.rr HS2.out.tk (by omega) (by omega);rw [show nm1 T (s4 T) 7=e5 T from rfl] at hn;go_wp2_with fail
   refine hn.mono ?_;rintro r w6 ⟨rfl,hr1,ht1,hk1⟩;have HS6:Hid (RS w w6 R g K A n0 (psS T (e5 T).2 0) s (rEp T) (rFr T) (.slice aL (rLv T).length cL) (.slice none 0 0) (rLv T) (inP (psL T (e5 T).2 0))):=HS2.out.num hr1 ht1 hk1;clear hn HS2 hr1 ht1 hk1;have hnj:(e5 T).1<128:=nm1_lt T (s4 T) 7;obtain ⟨nj,hnje⟩:∃n,(e5 T).1=n:=⟨_,rfl⟩;have HNJ:Hid ((e5 T).1=nj):=hnje;rw [hnje] at hnj;rw [hnje];clear hnje;go_wp2_with fail
   go_loopw [26] (fun i wx=>∃m:Nat,m≤nj∧i=.int .i64 (m:Int)∧∃vJ,RS w wx R g K A n0 (psS T (e5 T).2 m) s (rEp T) (rFr T) (.slice aL (rLv T).length cL) vJ (rLv T) (inP (psL T (e5 T).2 m))) (fun i _=>nj - (intOf i).toNat)
   case atStart=>exact ⟨0,by omega,rfl,_,HS6.out⟩
   case round=>
    obtain ⟨m,hm,rfl,vJ,hS⟩:=hrel;obtain ⟨aJ,cJ,rfl⟩:=owns_slice hS.rj;have HS:Hid (RS w wr R g K A n0 (psS T (e5 T).2 m) s (rEp T) (rFr T) (.slice aL (rLv T).length cL) (.slice aJ (inP (psL T (e5 T).2 m)).length cJ) (rLv T) (inP (psL T (e5 T).2 m))):=hS;clear hS HS6;have HLEN:Hid ((inP (psL T (e5 T).2 m)).length=m):=inP_ps T _ m;by_cases hmn:m<nj
    ·have i2:(m:Int)<(nj:Int):=by omega
     have HNX:Hid (inP (psL T (e5 T).2 (m+1))=inP (psL T (e5 T).2 m)++[(((nm1 T (psS T (e5 T).2 m) 8).1:Int),((nm1 T (nm1 T (psS T (e5 T).2 m) 8).2 6).1:Int))]):=psL_next T _ m;have HNS:Hid (psS T (e5 T).2 (m+1)=(nm1 T (nm1 T (psS T (e5 T).2 m) 8).2 6).2):=rfl;obtain ⟨l,hl⟩:∃l,inP (psL T (e5 T).2 m)=l:=⟨_,rfl⟩;obtain ⟨p,hp⟩:∃p,psS T (e5 T).2 m=p:=⟨_,rfl⟩;rw [hl] at HNX HS HLEN;rw [hp] at HNX HNS HS;clear hl hp;have hn:=HNM.out 8 HS.out.rr HS.out.tk (by omega) (by omega);obtain ⟨x,hx⟩:∃x,nm1 T p 8=x:=⟨_,rfl⟩;rw [hx] at hn HNX HNS;clear hx;go_wp2_with fail
     refine hn.mono ?_;rintro r w8 ⟨rfl,hr1,ht1,hk1⟩;have hS8:=HS.out.num hr1 ht1 hk1;clear hn HS hr1 ht1 hk1;have hn:=HNM.out 6 hS8.rr hS8.tk (by omega) (by omega);obtain ⟨y,hy⟩:∃y,nm1 T x.2 6=y:=⟨_,rfl⟩;rw [hy] at hn HNX HNS;clear hy;go_wp2_with fail
     refine hn.mono ?_;rintro r w9 ⟨rfl,hr1,ht1,hk1⟩;have hS9:=hS8.num hr1 ht1 hk1;have HS9:Hid (RS w w9 R g K A n0 y.2 s (rEp T) (rFr T) (.slice aL (rLv T).length cL) (.slice aJ l.length cJ) (rLv T) l):=hS9;clear hn hS8 hr1 ht1 hk1;obtain ⟨c0,c1,c2,c3⟩:=hS9.rc.cells;have hrow:=hS9.rj;have hsz:=hS9.sz;clear hS9;obtain ⟨i0,hi,hz0,hz1,hz2⟩:=infoSeat_parts;have hlen:l.length≤4096:=by have:=HLEN.out;omega
     obtain ⟨xv,hxv⟩:∃v:Int,(x.1:Int)=v:=⟨_,rfl⟩;obtain ⟨yv,hyv⟩:∃v:Int,(y.1:Int)=v:=⟨_,rfl⟩;rw [hxv,hyv] at HNX;rw [hxv,hyv];clear hxv hyv;go_wp2_with (at_builtin;(refine wpList_append_own _ rfl _ _ 75 rfl n0 165 i0 (.agg #[.int .i64 0,.int .i64 0]) 2 16 Tryz.underlying75 hi hz0 hz1 hz2 rfl (by decide) (.slice aJ l.length cJ) l.length (ps l) rfl (hrow.alloc _) ⟨w9.heap.size,0,none⟩ 1 1 [.int .i64 xv,.int .i64 yv] rfl rfl (cell_row_new _ _ _) (by simp [Value.oneCell']) (by unfold maxLen;omega) (by omega) (by simp;omega) ?_);intro v' w3 hown' hg3 _;obtain ⟨a2,cap2,hv2⟩:=Rs.owns_slice hown';subst hv2;have HAP:Hid (RcAt w3 A #[.int .i64 (rEp T),.int .i64 (rFr T),.slice aL (rLv T).length cL,.slice aJ l.length cJ]∧RS w (w3.setCell ⟨A,3,none⟩ (.slice a2 (l.length+1) cap2)) R g K A n0 y.2 s (rEp T) (rFr T) (.slice aL (rLv T).length cL) (.slice a2 (l.length+1) cap2) (rLv T) (l++[(xv,yv)])):=(HS9.out.later (below_alloc _ _)).appJ (y:=(xv,yv)) (by rw [ps_snoc,List.length_append];exact hown') hg3;clear hown' hg3;have hcB:w3.cell? ⟨A,3,none⟩=some (.slice aJ l.length cJ):=HAP.out.1.cells.2.2.2;have hfB:w3.frozen? ⟨A,3,none⟩=false:=Rt.row_frozen HAP.out.1 3)
     go_roundw
     case rel=>exact ⟨m+1,by omega,by go_num,_,by rw [HNX.out,HNS.out];exact HAP.out.2⟩
     case measure=>simp [intOf];omega
    ·have hmn':decide ((m:Int)<(nj:Int))=false:=by simp;omega
     obtain rfl:m=nj:=by omega
     have HS2:Hid (RS w wr R g K A n0 (s6 T) s (rEp T) (rFr T) (.slice aL (rLv T).length cL) (.slice aJ (rJn T).length cJ) (rLv T) (rJn T)):=by
      have h:=HS.out;unfold Hid s6 rJn;rw [HNJ.out];exact h
     clear HS;have HOK:Hid (okR T=((!(s6 T).2&&dn T (s6 T).1)&&rgt (rEp T) (rFr T) (rLv T) (rJn T))):=rfl;have hwh:=HWH.out HS2.out.rr HS2.out.tk
     cases hbw:(!(s6 T).2&&dn T (s6 T).1) with
     | false=>
      rw [hbw] at hwh HOK;clear hbw;go_wp2_with fail
      refine hwh.mono ?_;rintro r w11 ⟨rfl,hb11⟩;have hS11:=HS2.out.later hb11;have HS11:Hid (RS w w11 R g K A n0 (s6 T) s (rEp T) (rFr T) (.slice aL (rLv T).length cL) (.slice aJ (rJn T).length cJ) (rLv T) (rJn T)):=hS11;have hrs:=hS11.rs;clear hwh HS2 hb11 hS11;go_wp2_with (refine stRw infoRc (cs:=rz) rfl hrs #[.int .i64 0,.int .i64 0,.slice none 0 0,.slice none 0 0] rfl (rc_one _ _ _ _ _ _ _ _) rfl _ _ rfl rfl rfl ?_)
      refine bodyPost_ret (results_rc (p:=2) (t:=3) rfl _ _ R rz rfl (Rt.heap_setRow_same hrs _) rfl) rfl ?_;exact RdRec.no (by rw [HOK.out];rfl) (Rt.setRow_below HS11.out.le.1 HS11.out.bel _)
     | true=>
      rw [hbw] at hwh HOK;clear hbw;go_wp2_with fail
      refine hwh.mono ?_;rintro r w11 ⟨rfl,hb11⟩;have hS11:=HS2.out.later hb11;have HS11:Hid (RS w w11 R g K A n0 (s6 T) s (rEp T) (rFr T) (.slice aL (rLv T).length cL) (.slice aJ (rJn T).length cJ) (rLv T) (rJn T)):=hS11;obtain ⟨c0,c1,c2,c3⟩:=hS11.rc.cells;have hri:=right_any (rEp T) (rFr T) aL aJ cL cJ (rLv T) (rJn T) w11 (rdI_of hS11.rl) (rdP_of hS11.rj);clear hwh HS2 hb11 hS11
      cases hbr:rgt (rEp T) (rFr T) (rLv T) (rJn T) with
      | false=>
       rw [hbr] at hri HOK;clear hbr;go_wp2_with fail
       refine hri.mono ?_;rintro r w12 ⟨rfl,hb12⟩;have hS12:=HS11.out.later hb12;have HS12:Hid (RS w w12 R g K A n0 (s6 T) s (rEp T) (rFr T) (.slice aL (rLv T).length cL) (.slice aJ (rJn T).length cJ) (rLv T) (rJn T)):=hS12;have hrs:=hS12.rs;clear hri hS12 hb12 c0 c1 c2 c3;go_wp2_with (refine stRw infoRc (cs:=rz) rfl hrs #[.int .i64 0,.int .i64 0,.slice none 0 0,.slice none 0 0] rfl (rc_one _ _ _ _ _ _ _ _) rfl _ _ rfl rfl rfl ?_)
       refine bodyPost_ret (results_rc (p:=2) (t:=3) rfl _ _ R rz rfl (Rt.heap_setRow_same hrs _) rfl) rfl ?_;exact RdRec.no (by rw [HOK.out];rfl) (Rt.setRow_below HS12.out.le.1 HS12.out.bel _)
      | true=>
       rw [hbr] at hri HOK;clear hbr;go_wp2_with fail
       refine hri.mono ?_;rintro r w12 ⟨rfl,hb12⟩;have hS12:=HS11.out.later hb12;have HS12:Hid (RS w w12 R g K A n0 (s6 T) s (rEp T) (rFr T) (.slice aL (rLv T).length cL) (.slice aJ (rJn T).length cJ) (rLv T) (rJn T)):=hS12;have hrs:=hS12.rs;clear c0 c1 c2 c3;obtain ⟨c0,c1,c2,c3⟩:=hS12.rc.cells;clear hri hS12 hb12;go_wp2_with (refine stRw infoRc (cs:=rz) rfl hrs #[.int .i64 (rEp T),.int .i64 (rFr T),.slice aL (rLv T).length cL,.slice aJ (rJn T).length cJ] rfl (rc_one _ _ _ _ _ _ _ _) rfl _ _ rfl rfl rfl ?_)
       refine bodyPost_ret (results_rc (p:=2) (t:=3) rfl _ _ R _ rfl (Rt.heap_setRow_same hrs _) rfl) rfl ?_;have hlt:=HS12.out.lt;have hle:=HS12.out.le;have far:∀k,n0≤k→k<w12.heap.size→(w12.setRow R #[.int .i64 (rEp T),.int .i64 (rFr T),.slice aL (rLv T).length cL,.slice aJ (rJn T).length cJ]).heap[k]? =w12.heap[k]? :=fun k h1 h2=>Rt.row_other (by omega) _
       exact RdRec.yes (by rw [HOK.out];rfl) (Rs.owns_block HS12.out.rl far) (Rs.owns_block HS12.out.rj far) HN0.out (Rt.setRow_below hle.1 HS12.out.bel _)
end Go.Proofs.YtoimkngkcliinaaGreatDoor.Rc
