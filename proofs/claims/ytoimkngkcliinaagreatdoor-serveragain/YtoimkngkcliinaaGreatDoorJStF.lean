/- StF, StK, joined. -/
import Derived.Test.YtoimkngkcliinaaGreatDoorJStMath
import Derived.BigQuiet
import Derived.Sort.QuietIn
import Derived.WalkSmall
import Derived.Deep.RegionHeld3
namespace Go.Proofs.YtoimkngkcliinaaGreatDoor.Rs
open Go.RowKit Go.Maps Go.Shelf
attribute [local go_sem] Oper.semAt_some
set_option linter.unusedVariables false
set_option linter.unusedSimpArgs false
@[simp] theorem wide_fn (f:Nat):Fence.wide.fn f=True:=by simp [Fence.wide]
attribute [local go_sem] wide_fn
/- What Take answers: the slots, the set, the error. -/
def TakeP (s:Nat) (n:Int) (w w':World) (e:Ending):Prop:=
 if n<0 then e=.returned (.tuple #[.slice none 0 0,.int .u64 0,.int .i64 1])
 else if ((bl (nt s)).length:Int)<n then e=.returned (.tuple #[.slice none 0 0,.int .u64 0,.int .i64 18])
 else ∃v,e=.returned (.tuple #[v,.int .u64 ((pf s ((bl (nt s)).take n.toNat):Nat):Int),.int .i64 0])∧NewL w w' v ((bl (nt s)).take n.toNat)
theorem TakeP.neg {s:Nat} {n:Int} {w w':World} (h:n<0):TakeP s n w w' (.returned (.tuple #[.slice none 0 0,.int .u64 0,.int .i64 1])):=by unfold TakeP;rw [if_pos h]
theorem TakeP.full {s M:Nat} {w w':World} (h:(bl (nt s)).length<M):TakeP s (M:Int) w w' (.returned (.tuple #[.slice none 0 0,.int .u64 0,.int .i64 18])):=by unfold TakeP;rw [if_neg (by omega),if_pos (by omega)]
theorem TakeP.ok {s M:Nat} {w w':World} (h:M≤(bl (nt s)).length) {v:Value} (hv:NewL w w' v ((bl (nt s)).take M)):TakeP s (M:Int) w w' (.returned (.tuple #[v,.int .u64 ((pf s ((bl (nt s)).take M):Nat):Int),.int .i64 0])):=by
 unfold TakeP;rw [if_neg (by omega),if_neg (by omega)];exact ⟨v,rfl,hv⟩
theorem boxed_below {n:Nat} {W W':World} {B:Nat} {t:TypeId} {v:Value} (h:Boxed W B t v) (hb:Below n W W') (hB:B<n):Boxed W' B t v:=(hb.block B hB).trans h
theorem boxed_later {W W':World} {B:Nat} {t:TypeId} {v:Value} (h:Boxed W B t v) (hb:Below W.heap.size W W'):Boxed W' B t v:=boxed_below h hb (Array.getElem?_eq_some_iff.1 h).1
theorem boxed_lt {W:World} {B:Nat} {t:TypeId} {v:Value} (h:Boxed W B t v):B<W.heap.size:=(Array.getElem?_eq_some_iff.1 h).1
theorem row_slice {W:World} {b:Nat} {e:TypeId} {v:Value} {n:Nat} {xs:List Value} (h:W.ownsRow b e 1 v n xs):∃a cap,v=.slice a n cap:=by
 rcases h.2 with ⟨rfl,rfl⟩ | ⟨g,cap,cur,rfl,_⟩
 ·exact ⟨none,0,rfl⟩
 ·exact ⟨_,cap,rfl⟩
theorem row_wide {W:World} {b b':Nat} {e:TypeId} {v:Value} {n:Nat} {xs:List Value} (h:W.ownsRow b e 1 v n xs) (hb:b'≤b):W.ownsRow b' e 1 v n xs:=by
 obtain ⟨h1,h2⟩:=h;refine ⟨h1,?_⟩;rcases h2 with h2 | ⟨g,cap,cur,rfl,h3,r⟩
 ·exact .inl h2
 ·exact .inr ⟨g,cap,cur,rfl,by omega,r⟩
theorem row_drew {W:World} {b:Nat} {e:TypeId} {v:Value} {n:Nat} {xs:List Value} (h:W.ownsRow b e 1 v n xs):W.drew.ownsRow b e 1 v n xs:=h
theorem below_drew {n:Nat} {w W:World} (h:Below n w W):Below n w W.drew:=h.trans ⟨rfl,rfl,rfl,Nat.le_refl _,fun _ _=>rfl⟩
theorem boxed_drew {W:World} {B:Nat} {t:TypeId} {v:Value} (h:Boxed W B t v):Boxed W.drew B t v:=h
theorem two_boxes {W:World} {A B:Nat} {t:TypeId} {u:Value} (hB:Boxed W B t u) (hne:A≠B) (v':Value):Boxed (W.setCell ⟨A,0,none⟩ v') B t u:=hB.kept (grownBy_setCell' W A v') (by simp;omega)
theorem drewN_below (W:World) (k:Nat):Below W.heap.size W (W.drewN k):=_root_.Go.below_drewN (Below.refl _ _) _
set_option maxRecDepth 100000 in
set_option maxHeartbeats 2000000 in
theorem take_in (n:Nat) (hn:3≤n) (s:Nat) (hs:s<18446744073709551616) (m:Int) (w:World) (hT:Tb w):
  CallsIn Fence.wide n Tryz.prog 306 #[.int .u64 (s:Int),.int .i64 m] w fun e w'=>TakeP s m w w' e∧Below w.heap.size w w':=by
 have h1:1≤n:=by omega
 obtain ⟨i0,hi,hz0,hz1,hz2⟩:=info_parts infoInt;refine callsIn_of_wp_marks Tryz.func306 rfl trivial ?_ rfl;simp only [Tryz.ntmps306,List.size_toArray,List.length_cons,List.length_nil,Nat.reduceAdd,Nat.reduceSub,Array.replicate_succ,Array.replicate_zero,List.push_toArray,List.append_toArray,List.nil_append,List.cons_append];have bS0:=(Boxed.new w 160 (.int .u64 (s:Int))).alloc (.cells #[.int .i64 m] 3);have bN0:=Boxed.new (w.alloc (.cells #[.int .u64 (s:Int)] 160)) 3 (.int .i64 m);simp only [World.size_alloc] at bN0;have hB0:Below w.heap.size w ((w.alloc (.cells #[.int .u64 (s:Int)] 160)).alloc (.cells #[.int .i64 m] 3)):=((Below.refl _ w).alloc (Nat.le_refl _) _).alloc (by simp) _;by_cases hm:m<0
 ·gi_wp2_with fail
  exact ⟨_,results_tmp3 rfl _ _ _,TakeP.neg hm,hB0⟩
 ·have hm':¬m<0:=hm;obtain ⟨M,rfl⟩:∃M:Nat,m=(M:Int):=⟨m.toNat,by omega⟩
  gi_wp2_with fail
  have hsz:((w.alloc (.cells #[.int .u64 (s:Int)] 160)).alloc (.cells #[.int .i64 (M:Int)] 3)).heap.size=w.heap.size+2:=by simp
  generalize (w.alloc (.cells #[.int .u64 (s:Int)] 160)).alloc (.cells #[.int .i64 (M:Int)] 3)=w2 at *;have hcs:=bS0.cell;have hcn:=bN0.cell;have hnot:bits BinOp.xor IntKind.u64 (if IntKind.u64.signed=true then -1 else IntKind.u64.max) (s:Int)=((nt s:Nat):Int):=by rw [if_neg (by decide)];exact not_u64 s hs
  have hnot2:=not_u64 s hs;have hcount:=count_any (nt s) (nt_lt s);obtain ⟨L,hL⟩:∃L,(bl (nt s)).length=L:=⟨_,rfl⟩;rw [hL] at hcount;have HL:Hid ((bl (nt s)).length=L):=hL;clear hL
  gi_quiet (first | (gi_at_call 305;exact CallsIn.quiet_of_same (callsIn_wide.2 (hcount _))))
  clear hcount hnot hcs hcn;have hd:=drewN_below w2 nq;have bS:=boxed_later bS0 hd;have bN:=boxed_later bN0 hd;have hB:=hB0.trans (hd.mono hB0.size);have hs3:(w2.drewN nq).heap.size=w.heap.size+2:=hsz;generalize w2.drewN nq=W3 at *;clear hd hB0 bS0 bN0 hsz;by_cases hlm:(L:Int)<(M:Int)
  ·gi_wp2_with fail
   exact ⟨_,results_tmp3 rfl _ _ _,TakeP.full (by have:=HL.out;omega),hB⟩
  ·have hcs:=bS.cell
   gi_wp2_with fail
   refine (slots_in (n - 1) _ _).mono ?_;rintro e w' ⟨rfl,rfl⟩;have bP:=Boxed.new W3 39 (.slice none 0 0);have bI:=Boxed.new (W3.alloc (.cells #[.slice none 0 0] 39)) 160 (.int .u64 ((nt s:Nat):Int));simp only [World.size_alloc,hs3] at bI bP;have hB1:Below W3.heap.size W3 ((W3.alloc (.cells #[.slice none 0 0] 39)).alloc (.cells #[.int .u64 ((nt s:Nat):Int)] 160)):=((Below.refl _ W3).alloc (Nat.le_refl _) _).alloc (by simp) _;have hB2:=hB.trans (hB1.mono hB.size);have hT2:Tb ((W3.alloc (.cells #[.slice none 0 0] 39)).alloc (.cells #[.int .u64 ((nt s:Nat):Int)] 160)):=hT.later hB2
   gi_wp2_with fail
   refine wpIn_rangeFunc_ownG rfl h1 (gf:=347) (lb:=#[.pointer (some ⟨w.heap.size+2+1,0,none⟩)]) (by simp [go_sem]) trivial (enters_of Tryz.func347 (by kernel_rfl) rfl)
    (slots_stopsF (n - 1) (by omega) (w.heap.size+2+1) w.heap.size (nt s) (nt_lt s) _ (by simp;omega) (by simp;omega) hT.1 hT2 bI.cell) Below.trans (below_putObj (by simp;omega)) (Below.refl _ _) (fun _=>rfl)
    (fun pre W=>((∃v,Boxed W (w.heap.size+2) 39 v∧W.ownsRow (w.heap.size+2) 3 1 v (vals pre).length (nI (vals pre))∧True)∧(Boxed W w.heap.size 160 (.int .u64 ((pf s (vals pre):Nat):Int))∧Boxed W (w.heap.size+1) 3 (.int .i64 (M:Int)))∧(pf s (vals pre)<18446744073709551616∧(vals pre).length≤M))∧Below w.heap.size w W)
    (fun c pre W=>((∃v,Boxed W (w.heap.size+2) 39 v∧W.ownsRow (w.heap.size+2) 3 1 v (vals pre.dropLast).length (nI (vals pre.dropLast))∧True)∧Boxed W w.heap.size 160 (.int .u64 ((pf s (vals pre.dropLast):Nat):Int))∧(c=.exit 0∧(vals pre.dropLast).length=M))∧Below w.heap.size w W)
    (OwnFrom.and (OwnFrom.and (Own.from (holdsRow_own (w.heap.size+2) (w.heap.size+2) 39 3 1 (fun pre=>(vals pre).length) (fun pre=>nI (vals pre)) (fun pre v=>True)) _) (OwnFrom.and (OwnFrom.and (Own.from (boxed_own _ _ _) _) (Own.from (boxed_own _ _ _) _)) (pure_own _))) (ownFrom_below (Nat.le_refl _) (by simp;omega)))
    (fun c=>OwnFrom.and (OwnFrom.and (Own.from (holdsRow_own (w.heap.size+2) (w.heap.size+2) 39 3 1 (fun pre:List (Fin 64)=>(vals pre.dropLast).length) (fun pre=>nI (vals pre.dropLast)) (fun pre v=>True)) _) (OwnFrom.and (Own.from (boxed_own _ _ _) _) (pure_own _))) (ownFrom_below (Nat.le_refl _) (by simp;omega)))
    ⟨⟨⟨_,bP.alloc _,World.ownsRow_nil _ _ _ _,trivial⟩,⟨(bS.alloc _).alloc _,(bN.alloc _).alloc _⟩,hs,Nat.zero_le _⟩,hB2⟩
    (fun x:Fin 64=>{tmps:=#[.int .u64 (s:Int),.int .i64 (M:Int),.pointer (some ⟨w.heap.size,0,none⟩),.pointer (some ⟨w.heap.size+1,0,none⟩),.slice none 0 0,.int .u64 0,.int .i64 0,.pointer (some ⟨w.heap.size+2,0,none⟩),.int .i64 ((x.1:Nat):Int),.int .i64 (M:Int),.bool false,.int .i64 (M:Int),.int .u64 (s:Int),.int .u64 ((nt s:Nat):Int),.int .i64 (L:Int),.bool false,.int .u64 (s:Int),.int .u64 ((nt s:Nat):Int),.func (.func 347) #[] #[.pointer (some ⟨w.heap.size+2+1,0,none⟩)],.int .i64 ((x.1:Nat):Int),undef,undef,undef,undef,undef,undef,undef,undef,undef,undef,undef,undef,undef,undef],defers:=[]}) ?assign ?body ?done ?stop
   case assign=>
    intro lo x W K hK
    gi_wp2
    exact hK
   case body=>
    rintro lo pre x W ⟨⟨⟨v,hv,hrow,-⟩,⟨hS,hN⟩,hps,hle⟩,hBw⟩ hlt;have hc:=hv.cell;have hcS:=hS.cell;have hcN:=hN.cell;have hvl:(vals pre).length<64:=by simpa using hlt
    obtain ⟨a,cap,rfl⟩:=row_slice hrow;obtain ⟨P,hP⟩:∃P,(vals pre).length=P:=⟨_,rfl⟩;have HROW:Hid (W.ownsRow (w.heap.size+2) 3 1 (.slice a (vals pre).length cap) (vals pre).length (nI (vals pre))):=hrow;by_cases hM:P=M
    ·subst hM;rw [hP] at hc hvl;have HPL:Hid ((vals pre).length=P):=hP;clear hP
     gi_wp2_with fail
     refine ⟨KeepsFrom.refl _ _,⟨⟨_,hv,?_,trivial⟩,?_,rfl,?_⟩,hBw⟩
     ·rw [List.dropLast_concat];exact HROW.out
     ·rw [List.dropLast_concat];exact hS
     ·rw [List.dropLast_concat];exact HPL.out
    ·have hx:=x.2;have hal:=alone_any x.1 x.2;have hor:=u64_or_nat (pf s (vals pre)) (2^x.1) hps (pow_lt hx);rw [or_put,←pf_snoc,←vals_snoc] at hor;generalize 2^x.1=pw at hal hor;have hpl:pf s (vals (pre++[x]))<18446744073709551616:=by rw [vals_snoc,pf_snoc];exact put_lt hps hx
     rw [hP] at hc hvl hrow hv;have HPL:Hid ((vals pre).length=P):=hP;clear hP;have hMi:¬((P:Int)=(M:Int)):=by omega
     gi_wp2_with (gi_at_builtin;refine wpListIn_append_own _ rfl _ _ 39 rfl (w.heap.size+2) 3 i0 _ 1 8 Tryz.underlying39 hi hz0 hz1 hz2 rfl (by decide) _ _ _ rfl (hrow.alloc _) ⟨W.heap.size,0,none⟩ 1 1 [.int .i64 ((x.1:Nat):Int)] rfl rfl (cell_one_new _ _ _) (by simp [Value.oneCell']) (by unfold maxLen;omega) (by omega) (by have:=boxed_lt hv;simp;omega) ?_;intro v' w1 hown' hgrow _;obtain ⟨g',cap',rfl⟩:=ownsRow_succ hown';obtain ⟨hv1,hv2,hr2,hk2,hb2⟩:=hv.appended (by decide) hrow (by have:=boxed_lt hv;omega) (Nat.le_refl _) hown' hgrow;have hc1:=hv1.cell;have hf1:=hv1.frozen)
     have hS5:=boxed_below hS hb2 (by omega);have hN5:=boxed_below hN hb2 (by omega);have hKW:=hb2.mono (show w.heap.size≤w.heap.size+2 by omega);have hB5:=hBw.trans hKW;generalize w1.setCell ⟨w.heap.size+2,0,none⟩ (.slice (some ⟨g',0,none⟩) (P+1) cap')=W5 at *;clear hc hcS hcN hv1 hc1 hf1 hown' hgrow hb2 hrow hv hS hN;have hcS:=hS5.cell;have hfS:=hS5.frozen
     gi_region_with (refine ⟨fun h=>(by cases h),(CallsIn.inRound lo (callsIn_wide.2 (hal _))).mono ?_⟩;rintro e w' ⟨rfl,rfl⟩)
     all_goals
      have hk3:KeepsOthers W (W5.setCell ⟨w.heap.size,0,none⟩ (.int .u64 ((pf s (vals (pre++[x])):Nat):Int))).drew:=hk2.trans ((KeepsOthers.setCell _ _ _).trans (KeepsOthers.drew _));have hb3:Below w.heap.size W (W5.setCell ⟨w.heap.size,0,none⟩ (.int .u64 ((pf s (vals (pre++[x])):Nat):Int))).drew:=below_drew (hKW.setCell (p:=⟨w.heap.size,0,none⟩) (Nat.le_refl _) _);refine ⟨hk3.from _,hb3,⟨⟨_,boxed_drew (two_boxes hv2 (by omega) _),?_,trivial⟩,⟨boxed_drew (hS5.set _),boxed_drew (two_boxes hN5 (by omega) _)⟩,hpl,?_⟩,hBw.trans hb3⟩
      ·have e1:nI (vals (pre++[x]))=nI (vals pre)++[.int .i64 ((x.1:Nat):Int)]:=by rw [vals_snoc,nI_snoc]
       have e2:(vals (pre++[x])).length=P+1:=by have:=HPL.out;simp at this ⊢;omega
       rw [e1,e2];exact row_drew (hr2.kept (grownBy_setCell' _ w.heap.size _) (.inr (hS5.not_row (by decide) hr2).symm))
      ·have hh:=HPL.out;rw [vals_snoc,List.length_append,List.length_singleton];omega
   case done=>
    rintro D ys W hD hys ⟨⟨⟨v,hv,hrow,-⟩,⟨hS,hN⟩,hlt,hle⟩,hBw⟩ hK;rw [hys] at hrow hS hlt hle;have hc:=hv.cell;have hc2:=hS.cell
    gi_wp2
    gi_region
    all_goals gi_wp2
    have hrd:=row_drew hrow;have hKd:W.drew.heap[D]? =some (.deferred (some [])):=hK;have hBd:=below_drew hBw;obtain ⟨Wd,hWd⟩:∃Wd,W.drew=Wd:=⟨_,rfl⟩;rw [hWd] at hrd hKd hBd ⊢;simp at hD;have hHL:=HL.out;have hn1:Below w.heap.size Wd (Wd.putObj D (.deferred none)):=belowK_b (w:=w) (Nat.le_refl _) Wd D _ _ (by omega) hKd rfl rfl;refine ⟨by simp,.inl ⟨_,_,rfl,run_takeDeferred hKd,?_⟩⟩;refine ⟨_,results_tmp3 (t:=4) (u:=5) (v:=6) rfl _ _ _,?_,hBd.trans hn1⟩;have hlen2:(bl (nt s)).length=M:=by omega
    have htk:(bl (nt s)).take M=bl (nt s):=by rw [←hlen2,List.take_length]
    have:=TakeP.ok (s:=s) (M:=M) (w:=w) (w':=Wd.putObj D (.deferred none)) (v:=v) (by omega) (by rw [htk];exact row_wide (ownsRow_putObj hrd _ hKd rfl) (by omega));rw [htk] at this;exact this
   case stop=>
    rintro D c pre W hD hp ⟨⟨⟨v,hv,hrow,-⟩,hS,rfl,hpl⟩,hBw⟩ hK;have hc:=hv.cell;have hc2:=hS.cell
    gi_wp2
    gi_region
    all_goals gi_wp2
    have hrd:=row_drew hrow;have hKd:W.drew.heap[D]? =some (.deferred (some [])):=hK;have hBd:=below_drew hBw;obtain ⟨Wd,hWd⟩:∃Wd,W.drew=Wd:=⟨_,rfl⟩;rw [hWd] at hrd hKd hBd ⊢;simp at hD;have hn1:Below w.heap.size Wd (Wd.putObj D (.deferred none)):=belowK_b (w:=w) (Nat.le_refl _) Wd D _ _ (by omega) hKd rfl rfl;refine ⟨by simp,.inl ⟨_,_,rfl,run_takeDeferred hKd,?_⟩⟩;refine ⟨_,results_tmp3 (t:=4) (u:=5) (v:=6) rfl _ _ _,?_,hBd.trans hn1⟩
    have htk:(bl (nt s)).take M=vals pre.dropLast:=by
     obtain ⟨r,hr⟩:=hp;rw [←hr,←hpl];rcases List.eq_nil_or_concat pre with rfl | ⟨q,x,rfl⟩
     ·simp [vals]
     ·rw [List.concat_eq_append,List.dropLast_concat,vals_snoc,List.append_assoc,List.take_left]
    have hle:M≤(bl (nt s)).length:=by have:=HL.out;omega
    have:=TakeP.ok (s:=s) (M:=M) (w:=w) (w':=Wd.putObj D (.deferred none)) (v:=v) hle (by rw [htk];exact row_wide (ownsRow_putObj hrd _ hKd rfl) (by omega));rw [htk] at this;exact this
theorem take_any (s:Nat) (hs:s<18446744073709551616) (m:Int) (w:World) (hT:Tb w):
  Calls Tryz.prog 306 #[.int .u64 (s:Int),.int .i64 m] w fun e w'=>TakeP s m w w' e∧Below w.heap.size w w':=callsIn_wide.1 (take_in 3 (by omega) s hs m w hT)
set_option linter.unusedVariables false
set_option maxRecDepth 4000
set_option linter.unusedSimpArgs false
/- Integers in memory. -/
def RdI (w:World) (a:Option Addr) (ws:List Int):Prop:=
 ∀i,i<ws.length→∃b o,a=some ⟨b,o,none⟩∧w.cell? ⟨b,o+i,none⟩=some (.int .i64 (ws.getD i 0))
theorem cell_later {w w':World} {a:Addr} {v:Value} (hb:Below w.heap.size w w') (hc:w.cell? a=some v):w'.cell? a=some v:=
 (World.cell?_of_block (hb.block a.block (World.block_lt_of_cell? w a hc))).trans hc
theorem RdI.later {w w':World} {a:Option Addr} {ws:List Int} (h:RdI w a ws) (hb:Below w.heap.size w w'):RdI w' a ws:=fun i hi=>by
 obtain ⟨b,o,e,c0⟩:=h i hi;exact ⟨b,o,e,cell_later hb c0⟩
theorem RdI.nil (w:World) (a:Option Addr):RdI w a []:=fun i hi=>by cases hi
theorem RdI.spot {w:World} {a:Option Addr} {ws:List Int} (h:RdI w a ws) (h0:ws≠[]):∃b o,a=some ⟨b,o,none⟩∧∀i,i<ws.length→w.cell? ⟨b,o+i,none⟩=some (.int .i64 (ws.getD i 0)):=by
 have hp:0<ws.length:=List.length_pos_iff.2 h0;obtain ⟨b,o,e,_⟩:=h 0 hp;refine ⟨b,o,e,fun i hi=>?_⟩;obtain ⟨b',o',e',c0⟩:=h i hi;rw [e] at e';simp at e';obtain ⟨rfl,rfl⟩:=e';exact c0
theorem take_getD {l:List Int} {k:Nat} (h:k<l.length):l.take (k+1)=l.take k++[l.getD k 0]:=by
 rw [List.take_succ_eq_append_getElem h,List.getD_eq_getElem?_getD,List.getElem?_eq_getElem h];rfl
end Go.Proofs.YtoimkngkcliinaaGreatDoor.Rs
