/- PlD, PlMath4, PlI, PlP0, joined. -/
import Derived.Test.YtoimkngkcliinaaGreatDoorHd
import Derived.Test.YtoimkngkcliinaaGreatDoorJPlC
import Derived.Test.YtoimkngkcliinaaGreatDoorJPlMath
import Derived.Test.YtoimkngkcliinaaGreatDoorJTrMath
import Derived.Test.YtoimkngkcliinaaGreatDoorJTrC
import Derived.Test.YtoimkngkcliinaaGreatDoorJShpMath
import Derived.Test.YtoimkngkcliinaaGreatDoorJRsH
import Derived.Deep.RegionHeld3
import Derived.Test.YtoimkngkcliinaaGreatDoorJRsSm
import Derived.Laws.AppendOwnNone
namespace Go.Proofs.YtoimkngkcliinaaGreatDoor
open Go.RowKit Go.Maps Go.Great
open Rt (Ky zK kcs KsAt trE trK cu)
open Rs (En zE rcs RoAt tkn RdI RdS ps ft FitOk evs evl mvE mvR mvL mvJ Tb)
set_option linter.unusedVariables false
set_option linter.unusedSimpArgs false
/- The arguments, boxed, and the answer's places. -/
structure NX (w W:World) (B C K D:Nat) (t:Tr) (aL aJ:Option Addr) (nL nJ cL cJ:Nat):Prop where
 tb:TB w W B C t aL aJ nL nJ cL cJ
 ze:TrAt W K (tz 0)
 rk:RkAt W D rkz
 gK:w.heap.size≤K
 gD:w.heap.size≤D
theorem NX.later {w W W':World} {B C K D:Nat} {t:Tr} {aL aJ:Option Addr} {nL nJ cL cJ:Nat} (h:NX w W B C K D t aL aJ nL nJ cL cJ) (hb:Below W.heap.size W W'):NX w W' B C K D t aL aJ nL nJ cL cJ:=⟨h.tb.later hb,h.ze.later hb,(hb.block D (Array.getElem?_eq_some_iff.1 h.rk).1).trans h.rk,h.gK,h.gD⟩
theorem NX.new (w:World) (t:Tr) (aL aJ:Option Addr) (nL nJ cL cJ:Nat):NX w ((((w.alloc (.cells (tcs t) 54)).alloc (.cells #[.slice aL nL cL,.slice aJ nJ cJ] 41)).alloc (.cells (tcs (tz 0)) 54)).alloc (.cells rkz 78)) w.heap.size (w.heap.size+1) (w.heap.size+2) (w.heap.size+3) t aL aJ nL nJ cL cJ:=by
 have h1:=TB.new w t aL aJ nL nJ cL cJ;generalize hW:(w.alloc (.cells (tcs t) 54)).alloc (.cells #[.slice aL nL cL,.slice aJ nJ cJ] 41)=W at *;have hs:W.heap.size=w.heap.size+2:=by rw [←hW];simp
 have h2:=TrAt.new W (tz 0);have hb2:=alloc_tr W (tz 0);have h3:=heap_alloc_last (W.alloc (.cells (tcs (tz 0)) 54)) (.cells rkz 78);have hb3:=below_alloc (W.alloc (.cells (tcs (tz 0)) 54)) (.cells rkz 78);rw [World.size_alloc,hs] at h3;rw [hs] at h2;exact ⟨(h1.later hb2).later hb3,h2.later hb3,h3,by omega,by omega⟩
theorem plE_al {t:Tr} {L J:List Int} (h:alE t L J≠0):plE t L J=alE t L J:=by
 unfold alE at *
 cases hk:tck t with
 | false=>rw [plE_bad hk];rfl
 | true=>
  rw [hk,if_pos rfl] at h;rw [if_pos rfl];by_cases h2:t.ep=200
  ·rw [plE_spent hk h2,if_pos h2]
  ·rw [if_neg h2] at h ⊢;exact plE_fit hk h2 h
theorem al_zero {t:Tr} {L J:List Int} (h:alE t L J=0):tck t=true∧¬t.ep=200∧ft t.ro L J=0:=by
 unfold alE at h
 cases hk:tck t with
 | false=>rw [hk] at h;cases h
 | true=>
  rw [hk,if_pos rfl] at h;by_cases h2:t.ep=200
  ·rw [if_pos h2] at h;cases h
  ·rw [if_neg h2] at h;exact ⟨rfl,h2,h⟩
theorem stTc {ops:Array Oper} {rest:List Oper} {o:Oper} {a:Act} {w:World} {Q:Exit→Act→World→Prop} {B:Nat} {t u:Tr} {c:Array Value} (h:TrAt w B t) (hc:tcs u=c) (hgd:o.guard=none) (x y:Operand) (ho:o.op=.store 54 x y)
  (hx:a.eval x=.pointer (some ⟨B,0,none⟩)) (hy:a.eval y=.agg c) (k:wpList Tryz.prog ops Q rest (a.put o.dst undef) (w.setRow B c)):wpList Tryz.prog ops Q (o::rest) a w:=by
 subst hc;exact stTr h hgd x y ho hx hy k
theorem bzc {ops:Array Oper} {rest:List Oper} {o:Oper} {a:Act} {w:World} {Q:Exit→Act→World→Prop} {c:Array Value} (hc:tcs (tz 0)=c) (hg:o.guard=none) (ho:o.op=.build 54 #[]) (k:wpList Tryz.prog ops Q rest (a.put o.dst (.agg c)) w):wpList Tryz.prog ops Q (o::rest) a w:=by
 subst hc;exact wpList_buildTo hg 54 #[] ho _ rfl (tcs (tz 0)) (builtz a) k
theorem rkz_one:rkz.all (·.oneCell')=true:=by simp [rkz,Value.oneCell']
theorem rkz_size:rkz.size=4:=rfl
theorem NX.setK {w W:World} {B C K D:Nat} {t:Tr} {aL aJ:Option Addr} {nL nJ cL cJ:Nat} (h:NX w W B C K D t aL aJ nL nJ cL cJ) (u:Tr) {c:Array Value} (hc:tcs u=c):TrAt (W.setRow K c) K u∧RkAt (W.setRow K c) D rkz∧Below w.heap.size w (W.setRow K c):=by
 subst hc;exact ⟨h.ze.row u,(Rt.row_other (block_ne h.rk h.ze (by decide)) _).trans h.rk,Rt.setRow_below h.gK h.tb.bel _⟩
theorem ldRo {ops:Array Oper} {rest:List Oper} {o:Oper} {a:Act} {w:World} {Q:Exit→Act→World→Prop} {B:Nat} {g:Nat→En} {c:Array Value} (h:RoAt w B g) (hc:rcs g=c) (hgd:o.guard=none) (x:Operand) (ho:o.op=.load 52 x) (hx:a.eval x=.pointer (some ⟨B,0,none⟩)) (k:wpList Tryz.prog ops Q rest (a.put o.dst (.agg c)) w):wpList Tryz.prog ops Q (o::rest) a w:=by
 subst hc;exact Rs.ld25 h hgd x ho hx k
theorem stRo {ops:Array Oper} {rest:List Oper} {o:Oper} {a:Act} {w:World} {Q:Exit→Act→World→Prop} {B:Nat} {f g:Nat→En} {c:Array Value} (h:RoAt w B f) (hc:rcs g=c) (hgd:o.guard=none) (x y:Operand) (ho:o.op=.store 52 x y) (hx:a.eval x=.pointer (some ⟨B,0,none⟩)) (hy:a.eval y=.agg c) (k:wpList Tryz.prog ops Q rest (a.put o.dst undef) (w.setRow B c)):wpList Tryz.prog ops Q (o::rest) a w:=by
 subst hc;exact Rs.st25 h hgd x y ho hx hy k
theorem ldKs {ops:Array Oper} {rest:List Oper} {o:Oper} {a:Act} {w:World} {Q:Exit→Act→World→Prop} {B:Nat} {g:Nat→Ky} {c:Array Value} (h:KsAt w B g) (hc:kcs g=c) (hgd:o.guard=none) (x:Operand) (ho:o.op=.load 48 x) (hx:a.eval x=.pointer (some ⟨B,0,none⟩)) (k:wpList Tryz.prog ops Q rest (a.put o.dst (.agg c)) w):wpList Tryz.prog ops Q (o::rest) a w:=by
 subst hc;exact Rt.ldK h hgd x ho hx k
theorem stKs {ops:Array Oper} {rest:List Oper} {o:Oper} {a:Act} {w:World} {Q:Exit→Act→World→Prop} {B:Nat} {f g:Nat→Ky} {c:Array Value} (h:KsAt w B f) (hc:kcs g=c) (hgd:o.guard=none) (x y:Operand) (ho:o.op=.store 48 x y) (hx:a.eval x=.pointer (some ⟨B,0,none⟩)) (hy:a.eval y=.agg c) (k:wpList Tryz.prog ops Q rest (a.put o.dst undef) (w.setRow B c)):wpList Tryz.prog ops Q (o::rest) a w:=by
 subst hc;exact Rt.stK h hgd x y ho hx hy k
theorem btc {ops:Array Oper} {rest:List Oper} {o:Oper} {a:Act} {w:World} {Q:Exit→Act→World→Prop} {e f:Int} {k:Nat→Ky} {r:Nat→En} {ck cr c:Array Value} (hk:kcs k=ck) (hr:rcs r=cr) (hc:tcs ⟨e,f,k,r⟩=c) (hg:o.guard=none) (x0 x1 x2 x3:Operand) (ho:o.op=.build 54 #[(0,x0),(1,x1),(2,x2),(3,x3)])
  (h0:a.eval x0=.int .i64 e) (h1:a.eval x1=.int .i64 f) (h2:a.eval x2=.agg ck) (h3:a.eval x3=.agg cr) (kk:wpList Tryz.prog ops Q rest (a.put o.dst (.agg c)) w):wpList Tryz.prog ops Q (o::rest) a w:=by
 subst hk hr hc;refine wpList_buildTo hg 54 _ ho _ rfl (tcs ⟨e,f,k,r⟩) ?_ kk
 have e1:((#[(0,x0),(1,x1),(2,x2),(3,x3)]:Array (Nat×Operand)).map fun (i,x)=>(i,a.eval x)).toList=[(0,.int .i64 e),(1,.int .i64 f),(2,.agg (kcs k)),(3,.agg (rcs r))]:=by
  simp [h0,h1,h2,h3]
 exact (congrArg (Tryz.prog.built 54) e1).trans (built_tr e f k r)
theorem alloc_ksz (w:World):w.alloc (.cells #[Value.int .i64 0,Value.int .i64 0,Value.int .i64 0,Value.int .i64 0,Value.int .i64 0,Value.int .i64 0,Value.int .i64 0,Value.int .i64 0,Value.int .i64 0,Value.int .i64 0,Value.int .i64 0,Value.int .i64 0,Value.int .i64 0,Value.int .i64 0,Value.int .i64 0,Value.int .i64 0,Value.int .i64 0,Value.int .i64 0,Value.int .i64 0,Value.int .i64 0,Value.int .i64 0,Value.int .i64 0,Value.int .i64 0,Value.int .i64 0,Value.int .i64 0,Value.int .i64 0,Value.int .i64 0,Value.int .i64 0,Value.int .i64 0,Value.int .i64 0,Value.int .i64 0,Value.int .i64 0,Value.int .i64 0,Value.int .i64 0,Value.int .i64 0,Value.int .i64 0,Value.int .i64 0,Value.int .i64 0,Value.int .i64 0,Value.int .i64 0,Value.int .i64 0,Value.int .i64 0] 48)=w.alloc (.cells (kcs fun _=>zK) 48):=by rw [Rt.zero42]
theorem alloc_trz (w:World):w.alloc (.cells Tryz.zeroCells54 54)=w.alloc (.cells (tcs (tz 0)) 54):=by rw [zero236]
/- The new tree in its box, the lists, the answer's places. -/
structure NF (w W:World) (N K D:Nat) (n:Tr) (vl vj:Value) (ll lj:List (Int×Int)):Prop where
 nx:TrAt W N n
 ze:∃u,TrAt W K u
 rk:∃cs,cs.size=4∧RkAt W D cs
 left:W.ownsRow w.heap.size 165 2 vl ll.length (ps ll)
 join:W.ownsRow w.heap.size 165 2 vj lj.length (ps lj)
 bel:Below w.heap.size w W
 ne:N≠K
 gK:w.heap.size≤K
 gD:w.heap.size≤D
theorem NF.later {w W W':World} {N K D:Nat} {n:Tr} {vl vj:Value} {ll lj:List (Int×Int)} (h:NF w W N K D n vl vj ll lj) (hb:Below W.heap.size W W'):NF w W' N K D n vl vj ll lj:=
 ⟨h.nx.later hb,h.ze.elim fun u hu=>⟨u,hu.later hb⟩,h.rk.elim fun cs hc=>⟨cs,hc.1,(hb.block D (Array.getElem?_eq_some_iff.1 hc.2).1).trans hc.2⟩,Rs.owns_later h.left hb,Rs.owns_later h.join hb,h.bel.trans (hb.mono h.bel.size),h.ne,h.gK,h.gD⟩
theorem NF.setT {w W:World} {N K D:Nat} {n:Tr} {vl vj:Value} {ll lj:List (Int×Int)} (h:NF w W N K D n vl vj ll lj) {c:Array Value} (hc:tcs n=c):NF w (W.setRow K c) N K D n vl vj ll lj∧TrAt (W.setRow K c) K n:=by
 subst hc;obtain ⟨u,hu⟩:=h.ze;have h1:=hu.row n;exact ⟨⟨(Rt.row_other h.ne _).trans h.nx,⟨n,h1⟩,h.rk.elim fun cs hc=>⟨cs,hc.1,(Rt.row_other (block_ne hc.2 hu (by decide)) _).trans hc.2⟩,Rs.owns_type h.left hu (by decide) _,Rs.owns_type h.join hu (by decide) _,Rt.setRow_below h.gK h.bel _,h.ne,h.gK,h.gD⟩,h1⟩
theorem NF.setD {w W:World} {N K D:Nat} {n u:Tr} {vl vj:Value} {ll lj:List (Int×Int)} (h:NF w W N K D n vl vj ll lj) (hu:TrAt W K u) {cs ds:Array Value} (hd:RkAt W D cs) (h4:ds.size=4):NF w (W.setRow D ds) N K D n vl vj ll lj∧TrAt (W.setRow D ds) K u∧RkAt (W.setRow D ds) D ds:=
 ⟨⟨(Rt.row_other (block_ne h.nx hd (by decide)) _).trans h.nx,⟨u,(Rt.row_other (block_ne hu hd (by decide)) _).trans hu⟩,⟨ds,h4,Rt.heap_setRow_same hd _⟩,Rs.owns_type h.left hd (by decide) _,Rs.owns_type h.join hd (by decide) _,Rt.setRow_below h.gD h.bel _,h.ne,h.gK,h.gD⟩,(Rt.row_other (block_ne hu hd (by decide)) _).trans hu,Rt.heap_setRow_same hd _⟩
theorem rds_of {W:World} {b:Nat} {a:Option Addr} {cap:Nat} {l:List (Int×Int)} (h:W.ownsRow b 165 2 (.slice a l.length cap) l.length (ps l)):RdS W a l:=by
 obtain ⟨a',cap',e,hr,_⟩:=Rs.owns_rd h;cases e
 exact hr
theorem if_wp {P:Program} {o:Oper} {a:Act} {w:World} {K:Act→World→Prop} {Q:Exit→Act→World→Prop} {c:Prop} [Decidable c] (hc:c) {X:Prop} (h:Oper.wp P o a w K Q):if c then Oper.wp P o a w K Q else X:=by rw [if_pos hc];exact h
theorem wp_stRow0 {P:Program} {o:Oper} {a:Act} {w:World} {K:Act→World→Prop} {Q:Exit→Act→World→Prop} (ty:TypeId) (x y:Operand) (ho:o.op=.store ty x y) (g:Nat) (cells:Array Value) (hx:a.eval x=.pointer (some ⟨g,0,none⟩)) (hy:a.eval y=.agg cells)
  (t:TypeId) (old:Array Value) (hg:w.heap[g]? =some (.cells old t (0,0))) (hi:(P.info? ty).map (·.size)=some cells.size) (hold:old.size=cells.size) (h1:cells.all (·.oneCell')=true) (hd:o.dst=none) (h:K a (w.setRow g cells)):o.wp P a w K Q:=by
 refine wp_store_row ty x y ho g cells hx hy t old hg hi hold h1 ?_;rw [hd];exact h
set_option maxRecDepth 100000 in
set_option maxHeartbeats 2000000 in
theorem next_any (t:Tr) (aL aJ:Option Addr) (cL cJ:Nat) (L J:List Int) (w:World) (hTb:Tb w) (lL:L.length<1152921504606846976) (lJ:J.length<1152921504606846976) (hL:RdI w aL L) (hJ:RdI w aJ J):
  Calls Tryz.prog 134 #[.agg (tcs t),.agg #[.slice aL L.length cL,.slice aJ J.length cJ]] w fun e w'=>NextA w w' t L J e∧Below w.heap.size w w':=by
 have hX:=NX.new w t aL aJ L.length J.length cL cJ;unfold rkz at hX;obtain ⟨ct,hct⟩:∃c,tcs t=c:=⟨_,rfl⟩;have HT:Hid (tcs t=ct):=hct;clear hct;go_enter Tryz.func134,Tryz.ntmps134;go_upto_region 1 with (fail)
 rw [zero236];generalize (((w.alloc (.cells (tcs t) 54)).alloc (.cells #[.slice aL L.length cL,.slice aJ J.length cJ] 41)).alloc (.cells (tcs (tz 0)) 54)).alloc (.cells #[.int .i64 0,.slice none 0 0,.slice none 0 0,.slice none 0 0] 78)=w1 at *;rw [HT.out];obtain ⟨D,hD⟩:∃D,w.heap.size+3=D:=⟨_,rfl⟩;obtain ⟨K,hK⟩:∃D,w.heap.size+2=D:=⟨_,rfl⟩;obtain ⟨C,hC⟩:∃D,w.heap.size+1=D:=⟨_,rfl⟩;obtain ⟨B,hB⟩:∃D,w.heap.size=D:=⟨_,rfl⟩;rw [hD,hK,hC,hB] at hX ⊢;clear hD hK hC hB;have h1:=allowed_any t aL aJ cL cJ L J w1 lL lJ (hL.later hX.tb.bel) (hJ.later hX.tb.bel);rw [HT.out] at h1;have hT1:=hX.tb.tr;obtain ⟨d0,d1⟩:=hX.tb.bt.cells;go_wp2_with (refine rdT hT1 HT.out _ rfl rfl rfl ?_)
 refine h1.mono ?_;rintro r w2 ⟨rfl,hb2⟩;have hX2:=hX.later hb2;clear h1 hX hT1 hb2 d0 d1;obtain ⟨E,hE⟩:∃E,alE t L J=E:=⟨_,rfl⟩;rw [hE];by_cases hE0:E=0
 ·subst hE0;obtain ⟨hck,hep,hft⟩:=al_zero hE;have hr:=tck_right hck;have he9:t.ep≤199:=by have:=hr.e1;omega
  have hf:=Rs.ft_ok hft;have m1:=move1 hr he9 hf;have lL64:=hf.lenL;have lJ64:=hf.lenJ;have HR0:Hid (Right t):=hr;have HE9:Hid (t.ep≤199):=he9;have HF:Hid (FitOk t.ro L J):=hf;have HCK:Hid (tck t=true):=hck;have HFT:Hid (ft t.ro L J=0):=hft;have HEP:Hid (¬t.ep=200):=hep;have hw1:IntKind.i64.wrap (t.ep+1)=t.ep+1:=Rt.i64_fit _ (by have:=hr.e0;omega) (by omega);have hpf:t.fr≤32768:=hr.f1;have HPF:Hid (0≤t.fr∧t.fr≤32768):=⟨by have:=hr.f0;omega,hpf⟩;have hm1:=Rs.move_any t.ro aL none cL 0 L [] (t.ep+1) t.fr w2 (hTb.later hX2.tb.bel) lL (by simp) (hL.later hX2.tb.bel) (Rs.RdI.nil _ _);simp only [List.length_nil] at hm1;obtain ⟨cr,hcr⟩:∃c,rcs t.ro=c:=⟨_,rfl⟩;have HR:Hid (rcs t.ro=cr):=hcr;rw [hcr] at hm1;obtain ⟨c0,c1⟩:=hX2.tb.tr.cells;obtain ⟨d0,d1⟩:=hX2.tb.bt.cells;have hT2:=hX2.tb.tr;obtain ⟨P,hP⟩:∃P,t.ep+1=P:=⟨_,rfl⟩;have HP:Hid (t.ep+1=P):=hP;rw [hP] at hm1 m1;have hw2:IntKind.i64.wrap (t.ep+1)=P:=hw1.trans hP;clear hw1;clear hE hep hr he9 hf hft hcr hpf hck hP;go_wp2_with (refine rdR hT2 HR.out _ rfl rfl rfl ?_)
  refine hm1.mono ?_;rintro r w3 ⟨⟨vl,vj0,rfl,hMP⟩,hb3⟩;have hX3:=hX2.later hb3;have hleft:=hMP.left;rw [m1.2.2] at hleft;obtain ⟨ce,hce⟩:∃c,rcs (evs t.ro L)=c:=⟨_,rfl⟩;have HCE:Hid (rcs (evs t.ro L)=ce):=hce;rw [m1.1,m1.2.1,hce];have hz3:RoAt (w3.alloc (.cells Tryz.zeroCells52 52)) w3.heap.size (fun _=>zE):=by rw [Rs.alloc_zero];exact Rs.RoAt.new _ _
  have HS3:Hid (w2.heap.size≤w3.heap.size):=hb3.size;have HW2:Hid (w.heap.size≤w2.heap.size):=hX2.tb.bel.size;clear hm1 hT2 c0 c1 d0 d1 hX2 hb3 hMP m1 hce;go_upto_region 6 with (refine stRo hz3 HCE.out rfl _ _ rfl rfl rfl ?_)
  rw [Rs.alloc_zero,World.setRow_alloc_new];have hR4:RoAt (w3.alloc (.cells ce 52)) w3.heap.size (evs t.ro L):=by rw [←HCE.out];exact Rs.RoAt.new _ _
  have hX4:=hX3.later (below_alloc w3 (.cells ce 52));have hleft4:=Rs.owns_later hleft (below_alloc w3 (.cells ce 52));have HS4:Hid (w2.heap.size≤(w3.alloc (.cells ce 52)).heap.size):=by have:=HS3.out;unfold Hid;simp;omega
  clear hz3 hX3 hleft;generalize w3.alloc (.cells ce 52)=w4 at *;generalize w3.heap.size=BR at *;obtain ⟨a1,cap1,rfl,hrd4,_⟩:=Rs.owns_rd hleft4;have HLL:Hid ((evl t.ro L).length≤64):=by unfold Hid;rw [Rs.evl_length];exact lL64
  obtain ⟨ll,hll⟩:∃ll,evl t.ro L=ll:=⟨_,rfl⟩;have HPR:Hid (plR t L=rp ll):=by unfold Hid plR;rw [hll]
  have HLE:Hid (evl t.ro L=ll):=hll;rw [hll] at hrd4 hleft4 HLL ⊢;have hrp:=replaced_any a1 cap1 ll w4 (by have:=HLL.out;omega) hrd4;have HLF4:Hid (w4.ownsRow w2.heap.size 165 2 (.slice a1 ll.length cap1) ll.length (ps ll)):=hleft4;clear hll hrd4 hleft4;go_wp2_with fail
  refine hrp.mono ?_;rintro r w5 ⟨rfl,hb5⟩;have hX5:=hX4.later hb5;have hR5:=Rs.RoAt.later hR4 hb5;have HLF5:Hid (w5.ownsRow w2.heap.size 165 2 (.slice a1 ll.length cap1) ll.length (ps ll)):=Rs.owns_later HLF4.out hb5;have HS5:Hid (w2.heap.size≤w5.heap.size):=Nat.le_trans HS4.out hb5.size;clear hrp hX4 hR4 HLF4 hb5 HS4;have htn:=Rt.turn_any t.ks (rp ll) (by have:=rp_lt ll;omega) t.fr;have htE:=turn_E HR0.out HE9.out (rp_lt ll);have HCU:Hid (plF t L=t.fr+((cu (rp ll) 21:Nat):Int)):=by unfold Hid plF;rw [HPR.out]
  obtain ⟨q,hq⟩:∃q,rp ll=q:=⟨_,rfl⟩;rw [hq] at htn htE HCU HPR;rw [hq];clear hq;obtain ⟨ck,hck⟩:∃c,kcs t.ks=c:=⟨_,rfl⟩;have HK:Hid (kcs t.ks=ck):=hck;simp only [hck] at htn;clear hck;have hT5:=hX5.tb.tr;obtain ⟨c0,c1⟩:=hX5.tb.tr.cells;by_cases hn1:t.fr+((cu q 21:Nat):Int)≤32768
  ·rw [if_pos hn1] at htE;rw [←Rt.TurnA.yes htE] at htn;have HTE:Hid (trE t.ks q t.fr=0):=htE;obtain ⟨F,hF⟩:∃F,t.fr+((cu q 21:Nat):Int)=F:=⟨_,rfl⟩;have HF2:Hid (plF t L=F):=by rw [←hF];exact HCU.out
   have HF3:Hid (t.fr≤F∧F≤32768):=⟨by omega,by omega⟩;obtain ⟨ckn,hckn⟩:∃c,kcs (trK t.ks q t.fr)=c:=⟨_,rfl⟩;have HCKN:Hid (kcs (trK t.ks q t.fr)=ckn):=hckn;simp only [hF,hckn] at htn;clear hF hckn hn1 htE HCU;go_wp2_with (refine rdK hT5 HK.out _ rfl rfl rfl ?_)
   refine (htn _).mono ?_;rintro r w6 ⟨rfl,hb6⟩;have hX6:=hX5.later hb6;have hR6:=Rs.RoAt.later hR5 hb6;have HLF6:Hid (w6.ownsRow w2.heap.size 165 2 (.slice a1 ll.length cap1) ll.length (ps ll)):=Rs.owns_later HLF5.out hb6;have HS6:Hid (w2.heap.size≤w6.heap.size):=Nat.le_trans HS5.out hb6.size;have hz6:KsAt (w6.alloc (.cells #[Value.int .i64 0,Value.int .i64 0,Value.int .i64 0,Value.int .i64 0,Value.int .i64 0,Value.int .i64 0,Value.int .i64 0,Value.int .i64 0,Value.int .i64 0,Value.int .i64 0,Value.int .i64 0,Value.int .i64 0,Value.int .i64 0,Value.int .i64 0,Value.int .i64 0,Value.int .i64 0,Value.int .i64 0,Value.int .i64 0,Value.int .i64 0,Value.int .i64 0,Value.int .i64 0,Value.int .i64 0,Value.int .i64 0,Value.int .i64 0,Value.int .i64 0,Value.int .i64 0,Value.int .i64 0,Value.int .i64 0,Value.int .i64 0,Value.int .i64 0,Value.int .i64 0,Value.int .i64 0,Value.int .i64 0,Value.int .i64 0,Value.int .i64 0,Value.int .i64 0,Value.int .i64 0,Value.int .i64 0,Value.int .i64 0,Value.int .i64 0,Value.int .i64 0,Value.int .i64 0] 48)) w6.heap.size (fun _=>zK):=by rw [alloc_ksz];exact Rt.KsAt.new _ _
   clear htn hX5 hT5 c0 c1 hR5 HLF5 HS5 hb6;go_upto_region 10 with (refine stKs hz6 HCKN.out rfl _ _ rfl rfl rfl ?_)
   rw [alloc_ksz,World.setRow_alloc_new];have hbw:=below_alloc w6 (.cells ckn 48);have hX7:=hX6.later hbw;have hR7:=Rs.RoAt.later hR6 hbw;have hK7:KsAt (w6.alloc (.cells ckn 48)) w6.heap.size (trK t.ks q t.fr):=by rw [←HCKN.out];exact Rt.KsAt.new _ _
   have HLF7:Hid ((w6.alloc (.cells ckn 48)).ownsRow w2.heap.size 165 2 (.slice a1 ll.length cap1) ll.length (ps ll)):=Rs.owns_later HLF6.out hbw;have HS7:Hid (w2.heap.size≤(w6.alloc (.cells ckn 48)).heap.size):=Nat.le_trans HS6.out hbw.size;clear hz6 hX6 hR6 HLF6 HS6 hbw;generalize w6.alloc (.cells ckn 48)=w7 at *;generalize w6.heap.size=BK at *;have hm2:=Rs.move_any (evs t.ro L) none aJ 0 cJ [] J P F w7 (hTb.later hX7.tb.bel) (by simp) lJ (Rs.RdI.nil _ _) (hJ.later hX7.tb.bel);simp only [List.length_nil] at hm2;rw [HCE.out] at hm2;have hmE:=move2 HR0.out HE9.out HF.out (by rw [HF2.out];exact HF3.out.2);rw [HP.out,HF2.out] at hmE;obtain ⟨c0,c1⟩:=hX7.tb.tr.cells;obtain ⟨d0,d1⟩:=hX7.tb.bt.cells;go_wp2_with (refine ldRo hR7 HCE.out rfl _ rfl rfl ?_)
   refine hm2.mono ?_;rintro r w8 ⟨⟨vl0,vj,rfl,hMP⟩,hb8⟩;have hX8:=hX7.later hb8;have hK8:=Rt.KsAt.later hK7 hb8;have HLF8:Hid (w8.ownsRow w2.heap.size 165 2 (.slice a1 ll.length cap1) ll.length (ps ll)):=Rs.owns_later HLF7.out hb8;have HS8:Hid (w2.heap.size≤w8.heap.size∧w7.heap.size≤w8.heap.size):=⟨Nat.le_trans HS7.out hb8.size,hb8.size⟩;have hz8:RoAt (w8.alloc (.cells Tryz.zeroCells52 52)) w8.heap.size (fun _=>zE):=by rw [Rs.alloc_zero];exact Rs.RoAt.new _ _
   obtain ⟨cro,hcro⟩:∃c,rcs (mvR (evs t.ro L) [] J P F)=c:=⟨_,rfl⟩;have HCRO:Hid (rcs (mvR (evs t.ro L) [] J P F)=cro):=hcro;rw [hcro];have HJ8:Hid (w8.ownsRow w7.heap.size 165 2 vj (mvJ (evs t.ro L) [] J P F).length (ps (mvJ (evs t.ro L) [] J P F))):=hMP.join;obtain ⟨a2,cap2,rfl⟩:=Rs.owns_slice HJ8.out;clear hm2 hX7 hR7 hK7 hb8 hcro c0 c1 d0 d1 hMP;by_cases hn2:F+(J.length:Int)≤32768
   ·rw [if_pos hn2] at hmE;rw [hmE];have hst:Stp t L J:=stp_of HCK.out HEP.out HFT.out (by rw [HF2.out];exact hn2);have HST:Hid (Stp t L J):=hst;have e2:=hst.r2;have e3:=hst.j2;rw [HP.out,HF2.out] at e2 e3;have HLJ:Hid ((jns t L J).length=J.length):=by unfold Hid jns;rw [Rs.adl_length]
    have HJ9:Hid (w8.ownsRow w7.heap.size 165 2 (.slice a2 (jns t L J).length cap2) (jns t L J).length (ps (jns t L J))):=by have h:=HJ8.out;rw [e3] at h;exact h
    have HAP:Hid (Value.ownBlock (.slice a1 ll.length cap1)=none∨Value.ownBlock (.slice a1 ll.length cap1)≠Value.ownBlock (.slice a2 (jns t L J).length cap2)):=Rs.apart_older (b':=0) HLF7.out HJ9.out;have HCR2:Hid (rcs (nx t L J).ro=cro):=by rw [←e2];exact HCRO.out
    rw [e3];obtain ⟨lj,hlj⟩:∃lj,jns t L J=lj:=⟨_,rfl⟩;rw [hlj] at HJ9 HAP HLJ;rw [hlj];have HLJE:Hid (jns t L J=lj):=hlj
    have HN0:Hid (nx t L J=⟨P,F+(lj.length:Int),trK t.ks q t.fr,(nx t L J).ro⟩):=by
     unfold Hid;rw [HLJ.out,←HF2.out,←HP.out,←HPR.out];rfl
    have hfw:IntKind.i64.wrap (F+(lj.length:Int))=F+(lj.length:Int):=Rt.i64_fit _ (by have:=HF3.out;have:=HPF.out;omega) (by have:=HF3.out;have:=HLJ.out;omega);obtain ⟨cn,hcn⟩:∃c,tcs (nx t L J)=c:=⟨_,rfl⟩;have HCN:Hid (tcs (nx t L J)=cn):=hcn;have HCN2:Hid (tcs ⟨P,F+(lj.length:Int),trK t.ks q t.fr,(nx t L J).ro⟩=cn):=by rw [←HN0.out];exact hcn
    have hlj64:lj.length≤64:=by have:=HLJ.out;omega
    clear hst e2 e3 hlj hcn hmE hn2 HJ8 HCRO;go_upto_region 13 with (refine stRo hz8 HCR2.out rfl _ _ rfl rfl rfl ?_)
    rw [Rs.alloc_zero,World.setRow_alloc_new];have hbw:=below_alloc w8 (.cells cro 52);have hX9:=hX8.later hbw;have hK9:=Rt.KsAt.later hK8 hbw;have hR9:RoAt (w8.alloc (.cells cro 52)) w8.heap.size (nx t L J).ro:=by rw [←HCR2.out];exact Rs.RoAt.new _ _
    have HLF9:Hid ((w8.alloc (.cells cro 52)).ownsRow w2.heap.size 165 2 (.slice a1 ll.length cap1) ll.length (ps ll)):=Rs.owns_later HLF8.out hbw;have HLJ9:Hid ((w8.alloc (.cells cro 52)).ownsRow w7.heap.size 165 2 (.slice a2 lj.length cap2) lj.length (ps lj)):=Rs.owns_later HJ9.out hbw;clear hz8 hX8 hK8 HLF8 HJ9 hbw;generalize w8.alloc (.cells cro 52)=w9 at *;generalize w8.heap.size=BA at *;have hz9:TrAt (w9.alloc (.cells Tryz.zeroCells54 54)) w9.heap.size (tz 0):=TrAt.zero w9;go_upto_region 16 with (first | (refine ldKs hK9 HCKN.out rfl _ rfl rfl ?_) | (refine ldRo hR9 HCR2.out rfl _ rfl rfl ?_) | (refine btc HCKN.out HCR2.out HCN2.out rfl _ _ _ _ rfl rfl rfl rfl rfl ?_) | (refine stTc hz9 HCN.out rfl _ _ rfl rfl rfl ?_))
    rw [alloc_trz,World.setRow_alloc_new];have hbw:=below_alloc w9 (.cells cn 54);have hX10:=hX9.later hbw;have hN10:TrAt (w9.alloc (.cells cn 54)) w9.heap.size (nx t L J):=by rw [←HCN.out];exact TrAt.new _ _
    have hne:w9.heap.size≠K:=fun e=>by have:=hX9.ze.lt;omega
    have hw2s:w.heap.size≤w2.heap.size:=HW2.out;have hw7s:w.heap.size≤w7.heap.size:=Nat.le_trans hw2s HS7.out
    have hS0:NF w (w9.alloc (.cells cn 54)).drew w9.heap.size K D (nx t L J) (.slice a1 ll.length cap1) (.slice a2 lj.length cap2) ll lj:=
     NF.later ⟨hN10,⟨_,hX10.ze⟩,⟨rkz,rfl,hX10.rk⟩,Rs.owns_wide (Rs.owns_later HLF9.out hbw) hw2s,Rs.owns_wide (Rs.owns_later HLJ9.out hbw) hw7s,hX10.tb.bel,hne,hX10.gK,hX10.gD⟩ (drew_below _)
    clear hz9 hX9 hX10 hK9 hR9 HLF9 HLJ9 hbw hN10 hne hw2s hw7s hfw;generalize w9.alloc (.cells cn 54)=w10 at *;generalize w9.heap.size=N at *;obtain ⟨n,hn⟩:∃n,nx t L J=n:=⟨_,rfl⟩;have HNN:Hid (nx t L J=n):=hn;rw [hn] at hS0 HCN;have htn:tck n=true:=by rw [←hn];exact HST.out.tckn
    have hseat:∀p∈lj,∃s:Nat,s<64∧p.2=(s:Int)∧tkn (n.ro s)=true:=fun p hp=>by
     rw [←HLJE.out] at hp;obtain ⟨s,h1,h2,h3,_⟩:=HST.out.seat hp;exact ⟨s,h1,h2,by rw [←hn];exact h3⟩
    have hq32:q<4294967296:=by have:=plR_lt t L;rw [HPR.out] at this;omega
    have hit:∀W:World,W.ownsRow w.heap.size 165 2 (.slice a2 lj.length cap2) lj.length (ps lj)→_:=fun W hW=>items_any n q hq32 htn a2 cap2 lj W hlj64 (rds_of hW) hseat
    rw [HCN.out] at hit;clear hn;refine wp_region_held_drew (S:=fun W=>NF w W N K D n (.slice a1 ll.length cap1) (.slice a2 lj.length cap2) ll lj) (by kernel_rfl) hS0 (fun hHeld=>?_);refine opY 0 (.agg cn) rfl (fun w hSw=>ld_exec (HCN.out ▸ hSw.nx.whole) rfl rfl) ?_;go_frame;refine opX 1 (.int .i64 P) rfl ?_;go_frame;refine opX 2 (.slice a1 ll.length cap1) rfl ?_;go_frame;refine opX 3 (.slice a2 lj.length cap2) rfl ?_;go_frame;refine opY 4 (.agg cn) rfl (fun w hSw=>ld_exec (HCN.out ▸ hSw.nx.whole) rfl rfl) ?_;go_frame;refine opX 5 (.int .u32 (q:Int)) rfl ?_;go_frame;refine opX 6 (.slice a2 lj.length cap2) rfl ?_;go_frame;refine rdy 7 rfl fun K hK=>?_;go_simp
    refine (hit _ hHeld.join).mono ?_;rintro r w11 hip;obtain ⟨vi,rfl,hrow,hb11⟩:=hip;obtain ⟨a3,cap3,rfl⟩:=Rs.owns_slice hrow;have HROW:Hid (w11.ownsRow (w10.drew.heap.size+2) 121 6 (.slice a3 (its n q lj).length cap3) (its n q lj).length (isl (its n q lj))):=hrow;have HGE:Hid (w.heap.size≤w10.drew.heap.size+2):=by have:=hHeld.bel.size;unfold Hid;omega
    clear hrow;go_wp2_with fail
    refine hK.out _ _ (hHeld.later hb11) (fun hHeld2=>?_);clear hHeld hb11 hit;clear hK K;try go_frame
    refine opX 8 (.agg #[.int .i64 P,.slice a1 ll.length cap1,.slice a2 lj.length cap2,.slice a3 (its n q lj).length cap3]) rfl ?_;go_frame;refine rdy 9 rfl fun Kc hK=>?_;obtain ⟨u,hu⟩:=hHeld2.ze;obtain ⟨hN3,hT3⟩:=hHeld2.setT HCN.out;have HROW2:Hid ((w11.setRow K cn).ownsRow w.heap.size 121 6 (.slice a3 (its n q lj).length cap3) (its n q lj).length (isl (its n q lj))):=Rs.owns_type (Rs.owns_wide HROW.out HGE.out) hu (by decide) _;refine if_wp rfl (wp_stRow0 54 _ _ rfl K cn rfl rfl 54 (tcs u) hu (by rw [←HCN.out,tcs_size];exact infoT) (by rw [←HCN.out,tcs_size,tcs_size]) (by rw [←HCN.out];exact tcs_one n) rfl ?_);refine hK.out _ _ hN3 (fun hHeld3=>?_);clear hHeld2 hu hN3;clear hK Kc;try go_frame
    refine rdy 10 rfl fun Kc hK=>?_;obtain ⟨cs4,hc4,hRk⟩:=hHeld3.rk;obtain ⟨hN4,hT4,hRk4⟩:=hHeld3.setD (ds:=#[.int .i64 P,.slice a1 ll.length cap1,.slice a2 lj.length cap2,.slice a3 (its n q lj).length cap3]) hT3 hRk rfl;have HROW3:Hid (((w11.setRow K cn).setRow D #[.int .i64 P,.slice a1 ll.length cap1,.slice a2 lj.length cap2,.slice a3 (its n q lj).length cap3]).ownsRow w.heap.size 121 6 (.slice a3 (its n q lj).length cap3) (its n q lj).length (isl (its n q lj))):=Rs.owns_type HROW2.out hRk (by decide) _;refine if_wp rfl (wp_stRow0 78 _ _ rfl D _ rfl rfl 78 cs4 hRk infoRk hc4 (by simp [Value.oneCell']) rfl ?_);refine hK.out _ _ hN4 (fun hHeld4=>?_);clear hHeld3 hRk hN4;clear hK Kc;try go_frame
    refine opX 11 (.int .i64 0) rfl ?_;go_frame;refine wpAnyH_done (by kernel_rfl) ?_ _;have hw13:∃w13,(w11.setRow K cn).setRow D #[.int .i64 P,.slice a1 ll.length cap1,.slice a2 lj.length cap2,.slice a3 (its n q lj).length cap3]=w13:=⟨_,rfl⟩;obtain ⟨w13,hw13⟩:=hw13;rw [hw13] at hT4 hRk4 HROW3 hHeld4 ⊢;clear hw13 HROW2 HROW hT3 hseat;obtain ⟨li,hli⟩:∃li,its n q lj=li:=⟨_,rfl⟩;have HLI:Hid (its n q lj=li):=hli;rw [hli] at hRk4 HROW3 ⊢;clear hli;go_wp2_with fail
    refine bodyPost_ret (results_nx (p:=4) (q:=5) (t:=6) rfl _ _ K D n _ rfl rfl hT4 hRk4 rfl) rfl ?_;refine ⟨?_,hHeld4.bel⟩;have hfin:=NextA.yes (w:=w) HST.out.pl (by rw [HLE.out];exact hHeld4.left) (by rw [HLJE.out];exact hHeld4.join) (by rw [HNN.out,HPR.out,HLJE.out,HLI.out];exact HROW3.out) HAP.out;rw [HNN.out,HP.out] at hfin;exact hfin
   ·rw [if_neg hn2] at hmE;rw [hmE];have HE:Hid (plE t L J=3):=plE_key HCK.out HEP.out HFT.out (by rw [HF2.out];exact hn2);have HNE:Hid ((3:Int)≠0):=by unfold Hid;decide
    obtain ⟨nj,hnj⟩:∃n,(mvJ (evs t.ro L) [] J P F).length=n:=⟨_,rfl⟩;rw [hnj];clear hn2 hmE hnj;go_upto_region 13 with (refine stRo hz8 HCRO.out rfl _ _ rfl rfl rfl ?_)
    rw [Rs.alloc_zero,World.setRow_alloc_new];have hX:=hX8.later (below_alloc w8 (.cells cro 52));clear hz8 hX8;generalize w8.alloc (.cells cro 52)=w9 at *;have hZ:=hX.ze;obtain ⟨cz,hcz⟩:∃c,tcs (tz 0)=c:=⟨_,rfl⟩;have HZ:Hid (tcs (tz 0)=cz):=hcz;have hZ2:=hX.setK (tz 0) hcz;clear hcz;go_wp2_with (first | (refine bzc HZ.out rfl rfl ?_) | (refine stTc hZ HZ.out rfl _ _ rfl rfl rfl ?_) | (refine stRw infoRk (cs:=rkz) rkz_size hZ2.2.1 rkz rkz_size rkz_one rfl _ _ rfl rfl rfl ?_))
    refine bodyPost_ret (results_nx (p:=4) (q:=5) (t:=6) rfl _ _ K D (tz 0) rkz rfl rfl ((Rt.row_other (block_ne hZ2.1 hZ2.2.1 (by decide)) _).trans hZ2.1) (Rt.heap_setRow_same hZ2.2.1 _) rfl) rfl ?_;exact ⟨NextA.no HE.out HNE.out,Rt.setRow_below hX.gD hZ2.2.2 _⟩
  ·rw [if_neg hn1] at htE;rw [←Rt.TurnA.no htE (by decide)] at htn;have HE:Hid (plE t L J=3):=plE_key HCK.out HEP.out HFT.out (by rw [HCU.out];omega);have HNE:Hid ((3:Int)≠0):=by unfold Hid;decide
   obtain ⟨cz3,hcz3⟩:∃c,kcs (fun _=>zK)=c:=⟨_,rfl⟩;have HCZ:Hid (kcs (fun _=>zK)=cz3):=hcz3;simp only [hcz3] at htn;clear hcz3 hn1 htE;go_wp2_with (refine rdK hT5 HK.out _ rfl rfl rfl ?_)
   refine (htn _).mono ?_;rintro r w6 ⟨rfl,hb6⟩;have hX6:=hX5.later hb6;have hz6:KsAt (w6.alloc (.cells #[Value.int .i64 0,Value.int .i64 0,Value.int .i64 0,Value.int .i64 0,Value.int .i64 0,Value.int .i64 0,Value.int .i64 0,Value.int .i64 0,Value.int .i64 0,Value.int .i64 0,Value.int .i64 0,Value.int .i64 0,Value.int .i64 0,Value.int .i64 0,Value.int .i64 0,Value.int .i64 0,Value.int .i64 0,Value.int .i64 0,Value.int .i64 0,Value.int .i64 0,Value.int .i64 0,Value.int .i64 0,Value.int .i64 0,Value.int .i64 0,Value.int .i64 0,Value.int .i64 0,Value.int .i64 0,Value.int .i64 0,Value.int .i64 0,Value.int .i64 0,Value.int .i64 0,Value.int .i64 0,Value.int .i64 0,Value.int .i64 0,Value.int .i64 0,Value.int .i64 0,Value.int .i64 0,Value.int .i64 0,Value.int .i64 0,Value.int .i64 0,Value.int .i64 0,Value.int .i64 0] 48)) w6.heap.size (fun _=>zK):=by rw [alloc_ksz];exact Rt.KsAt.new _ _
   clear htn hX5 hT5 c0 c1 hb6;go_upto_region 10 with (refine stKs hz6 HCZ.out rfl _ _ rfl rfl rfl ?_)
   rw [alloc_ksz,World.setRow_alloc_new];have hX:=hX6.later (below_alloc w6 (.cells cz3 48));clear hz6 hX6;generalize w6.alloc (.cells cz3 48)=w7 at *;have hZ:=hX.ze;obtain ⟨cz,hcz⟩:∃c,tcs (tz 0)=c:=⟨_,rfl⟩;have HZ:Hid (tcs (tz 0)=cz):=hcz;have hZ2:=hX.setK (tz 0) hcz;clear hcz;go_wp2_with (first | (refine bzc HZ.out rfl rfl ?_) | (refine stTc hZ HZ.out rfl _ _ rfl rfl rfl ?_) | (refine stRw infoRk (cs:=rkz) rkz_size hZ2.2.1 rkz rkz_size rkz_one rfl _ _ rfl rfl rfl ?_))
   refine bodyPost_ret (results_nx (p:=4) (q:=5) (t:=6) rfl _ _ K D (tz 0) rkz rfl rfl ((Rt.row_other (block_ne hZ2.1 hZ2.2.1 (by decide)) _).trans hZ2.1) (Rt.heap_setRow_same hZ2.2.1 _) rfl) rfl ?_;exact ⟨NextA.no HE.out HNE.out,Rt.setRow_below hX.gD hZ2.2.2 _⟩
 ·have hd2:(E !=0)=true:=by simpa using hE0
  have HE:Hid (plE t L J=E):=by rw [←hE];exact plE_al (by rw [hE];exact hE0)
  have HNE:Hid (E≠0):=hE0;have hX:=hX2;have hZ:=hX2.ze;obtain ⟨cz,hcz⟩:∃c,tcs (tz 0)=c:=⟨_,rfl⟩;have HZ:Hid (tcs (tz 0)=cz):=hcz;have hZ2:=hX2.setK (tz 0) hcz;clear hcz;clear hE hE0 hX2;go_wp2_with (first | (refine bzc HZ.out rfl rfl ?_) | (refine stTc hZ HZ.out rfl _ _ rfl rfl rfl ?_) | (refine stRw infoRk (cs:=rkz) rkz_size hZ2.2.1 rkz rkz_size rkz_one rfl _ _ rfl rfl rfl ?_))
  refine bodyPost_ret (results_nx (p:=4) (q:=5) (t:=6) rfl _ _ K D (tz 0) rkz rfl rfl ((Rt.row_other (block_ne hZ2.1 hZ2.2.1 (by decide)) _).trans hZ2.1) (Rt.heap_setRow_same hZ2.2.1 _) rfl) rfl ?_;exact ⟨NextA.no HE.out HNE.out,Rt.setRow_below hX.gD hZ2.2.2 _⟩
open Rs (evl)
set_option maxRecDepth 4000
def t3:Tr:=nx stT [] [1,2,3]
open Rt (Ky zK kcs)
open Rs (En zE rcs tkn RdI RdS ps evl Tb)
theorem rk_one (p:Int) (a b c:Option Addr) (l m n i j k:Nat):(#[.int .i64 p,.slice a l i,.slice b m j,.slice c n k]:Array Value).all (·.oneCell')=true:=by simp [Value.oneCell']
/- An answer's two boxes. -/
theorem two_boxes (w:World) (u:Tr) (c cs:Array Value) (hc:tcs u=c):
  TrAt ((w.alloc (.cells Tryz.zeroCells54 54)).alloc (.cells #[.int .i64 0,.slice none 0 0,.slice none 0 0,.slice none 0 0] 78)) w.heap.size (tz 0)
  ∧RkAt (((w.alloc (.cells Tryz.zeroCells54 54)).alloc (.cells #[.int .i64 0,.slice none 0 0,.slice none 0 0,.slice none 0 0] 78)).setRow w.heap.size c) (w.heap.size+1) rkz
  ∧∃W,(((w.alloc (.cells Tryz.zeroCells54 54)).alloc (.cells #[.int .i64 0,.slice none 0 0,.slice none 0 0,.slice none 0 0] 78)).setRow w.heap.size c).setRow (w.heap.size+1) cs=W∧TrAt W w.heap.size u∧RkAt W (w.heap.size+1) cs∧Below w.heap.size w W:=by
 rw [alloc_trz];have h1:=TrAt.new w (tz 0);have hb1:=alloc_tr w (tz 0)
 have h2:RkAt ((w.alloc (.cells (tcs (tz 0)) 54)).alloc (.cells #[.int .i64 0,.slice none 0 0,.slice none 0 0,.slice none 0 0] 78)) (w.heap.size+1) rkz:=by
  have h:=heap_alloc_last (w.alloc (.cells (tcs (tz 0)) 54)) (.cells #[.int .i64 0,.slice none 0 0,.slice none 0 0,.slice none 0 0] 78);rw [World.size_alloc] at h;exact h
 have hb2:=below_alloc (w.alloc (.cells (tcs (tz 0)) 54)) (.cells #[.int .i64 0,.slice none 0 0,.slice none 0 0,.slice none 0 0] 78);have h3:=h1.later hb2;have hb:=hb1.trans (hb2.mono hb1.size);generalize (w.alloc (.cells (tcs (tz 0)) 54)).alloc (.cells #[.int .i64 0,.slice none 0 0,.slice none 0 0,.slice none 0 0] 78)=W at *;subst hc;have h4:RkAt (W.setRow w.heap.size (tcs u)) (w.heap.size+1) rkz:=(Rt.row_other (by omega) _).trans h2;have h5:=h3.row u;exact ⟨h3,h4,_,rfl,(Rt.row_other (by omega) _).trans h5,Rt.heap_setRow_same h4 _,Rt.setRow_below (by omega) (Rt.setRow_below (by omega) hb _) _⟩
open Go.RowKit Go.Maps
open Rs (RdS RdI ps evl cell_later)
def RdP (w:World) (a:Option Addr) (l:List (Int×Int)):Prop:=∀i,i<l.length→∃b o,a=some ⟨b,o,none⟩∧w.cell? ⟨b,o+i * 2,none⟩=some (.int .i64 (l.getD i (0,0)).1)∧w.cell? ⟨b,o+i * 2+1,none⟩=some (.int .i64 (l.getD i (0,0)).2)
theorem RdP.later {w w':World} {a:Option Addr} {l:List (Int×Int)} (h:RdP w a l) (hb:Below w.heap.size w w'):RdP w' a l:=fun i hi=>by
 obtain ⟨b,o,e,c0,c1⟩:=h i hi;exact ⟨b,o,e,cell_later hb c0,cell_later hb c1⟩
theorem ps_one (l:List (Int×Int)):∀u∈ps l,u.oneCell'=true:=by
 intro u hu;unfold Rs.ps at hu;rw [List.mem_flatMap] at hu;obtain ⟨p,_,h⟩:=hu;simp at h;rcases h with rfl | rfl <;> rfl
/- A copy of such a list. -/
theorem ps_len (l:List (Int×Int)):(ps l).length=l.length * 2:=by
 induction l with
 | nil=>rfl
 | cons p l ih=>
  have e:ps (p::l)=.int .i64 p.1:: .int .i64 p.2::ps l:=rfl;rw [e];simp [ih];omega
theorem news_of_rdP {w:World} {b o:Nat} {ws:List (Int×Int)} (h:RdP w (some ⟨b,o,none⟩) ws):∀j u,(ps ws)[j]? =some u→w.cell? ((⟨b,o,none⟩:Addr).add j)=some u:=fun j u hu=>by
 have hj:j<ws.length * 2:=by
  rcases Nat.lt_or_ge j (ps ws).length with h' | h'
  ·rw [ps_len] at h';exact h'
  ·rw [List.getElem?_eq_none h'] at hu;cases hu
 obtain ⟨b',o',e,c0,c1⟩:=h (j/2) (by omega);obtain ⟨eb,eo⟩:b=b'∧o=o':=by simpa using e
 rw [←eb,←eo] at c0 c1;obtain ⟨p0,p1⟩:=Rs.ps_get ws (j/2) (by omega);rw [Rs.add_plain];rcases Nat.mod_two_eq_zero_or_one j with hr | hr
 ·have e2:j/2 * 2=j:=by omega
  rw [e2] at p0;rw [show o+j/2 * 2=o+j by omega] at c0;rw [c0,←p0,hu]
 ·have e2:j/2 * 2+1=j:=by omega
  rw [e2] at p1;rw [show o+j/2 * 2+1=o+j by omega] at c1;rw [c1,←p1,hu]
theorem run_append_none2 {P:Program} {w:World} (base:Nat) (t ty e:TypeId) (i:TypeInfo) (size:Nat) (ht:P.underlying t=some (.slice e)) (hi:P.info? e=some i) (v:Value) (n:Nat) (xs:List Value) (hown:w.ownsRow base e size v n xs) (c:Nat):
  (Builtin.append_ #[t,t] ty #[v,.slice none 0 c]).run P w=.ok v w:=by
 rcases hown.2 with ⟨rfl,rfl⟩ | ⟨g,cap,cur,rfl,_,_,hnc,_⟩
 ·simp [Builtin.append_,run_underlying ht,sizeOf,typeInfo,hi,Builtin.lenOf,Builtin.firstCells]
 ·simp [Builtin.append_,run_underlying ht,sizeOf,typeInfo,hi,Builtin.lenOf,Builtin.firstCells,hnc,storeCells]
theorem append_rdP {w:World} {ops:Array Oper} {rest:List Oper} {o:Oper} {a:Act} {Q:Exit→Act→World→Prop} (hgd:o.guard=none) (s x:Operand)
  (ho:o.op=.call {callee:=.builtin .append,args:=#[s,x],argTypes:=#[75,75]})
  (base:Nat) (v:Value) (n:Nat) (xs:List Value) (hs:a.eval s=v) (hown:w.ownsRow base 165 2 v n xs) (src:Option Addr) (c:Nat) (ws:List (Int×Int)) (hx:a.eval x=.slice src ws.length c) (hrd:RdP w src ws)
  (h63:n+ws.length≤maxLen) (hbytes:(n+ws.length) * 16≤140737488355328) (hbase:base≤w.heap.size)
  (h:∀v' w',w'.ownsRow base 165 2 v' (n+ws.length) (xs++ps ws)→w.grownBy w' v.ownBlock→wpList Tryz.prog ops Q rest (a.put o.dst v') w'):wpList Tryz.prog ops Q (o::rest) a w:=by
 obtain ⟨i0,hi,hz0,hz1,hz2⟩:=Rs.infoSeat_parts
 cases src with
 | none=>
  have h0:ws=[]:=by
   cases ws with
   | nil=>rfl
   | cons y r=>obtain ⟨b,o,e,_⟩:=hrd 0 (by simp);cases e
  subst h0;refine wpList_plain hgd fun K hK=>?_
  have hrun:=run_append_none2 (P:=Tryz.prog) (w:=w) base 75 o.type 165 i0 2 Tryz.underlying75 hi v n xs hown c;rw [List.length_nil] at hx;unfold Oper.wp;simp [execOp,ho,resolve,invoke,builtin,hs,hx,hrun,Result.andThen];exact hK _ _ (h v w (by simpa [Rs.ps] using hown) ⟨rfl,rfl,rfl,Nat.le_refl _,fun _ _ _=>rfl⟩)
 | some ad=>
  refine wpList_append_own _ hgd s x 75 ho base 165 i0 _ 2 16 Tryz.underlying75 hi hz0 hz1 hz2 rfl (by decide) v n xs hs hown ad ws.length c (ps ws) hx (by rw [ps_len]) ?_ (ps_one _) h63 hbytes hbase fun v' w' h1 h2 _=>h v' w' h1 h2
  by_cases h0:ws=[]
  ·intro j u hu;rw [h0] at hu;simp [Rs.ps] at hu
  ·obtain ⟨b,o',e,-⟩:=hrd 0 (List.length_pos_iff.2 h0);cases e
   exact news_of_rdP hrd
end Go.Proofs.YtoimkngkcliinaaGreatDoor
