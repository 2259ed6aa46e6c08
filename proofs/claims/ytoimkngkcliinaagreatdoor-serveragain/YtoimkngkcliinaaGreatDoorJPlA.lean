/- PlA, PlB, joined. -/
import Derived.Test.YtoimkngkcliinaaGreatDoorHd
import Derived.Test.YtoimkngkcliinaaGreatDoorJPlMath
import Derived.Test.YtoimkngkcliinaaGreatDoorJTrC
import Derived.Test.YtoimkngkcliinaaGreatDoorJRsSm
import Derived.Test.YtoimkngkcliinaaGreatDoorJShpMath
import Derived.Deep.DeepCutAuto
import Derived.Test.YtoimkngkcliinaaGreatDoorJKeyMath
namespace Go.Proofs.YtoimkngkcliinaaGreatDoor
open Go.RowKit Go.Maps
open Rt (Ky zK kcs KyAt lfE lfB lfS)
open Rs (En zE rcs RoAt tkn ft RdI RdS ps sl put putR)
open Sh (lef abvTo)
set_option linter.unusedVariables false
set_option linter.unusedSimpArgs false
set_option maxRecDepth 100000 in
theorem isIn_any (r v:Nat) (hr:r<4294967296) (hv:v<21) (w:World):
  Calls Tryz.prog 258 #[.int .u32 (r:Int),.int .i64 (v:Int)] w fun e w'=>e=.returned (.bool (r.testBit v))∧w'=w:=by
 have hand:=Rt.and1 r v hr;have v0:(0:Int)≤(v:Int):=by omega
 have v1:IntKind.u64.wrap (v:Int)=(v:Int):=Rs.u64_fit _ (by omega) (by omega)
 cases hb:r.testBit v with
 | false=>
  rw [hb] at hand;go_enter Tryz.func258,Tryz.ntmps258;go_wp2_with fail
  go_ret;exact ⟨rfl,rfl⟩
 | true=>
  rw [hb] at hand;go_enter Tryz.func258,Tryz.ntmps258;go_wp2_with fail
  go_ret;exact ⟨rfl,rfl⟩
theorem results_ky1 {fn:Func} {p:Tmp} (hf:fn.results=#[.cell p 46]) (tmps:Array Value) (W:World) (B:Nat) (e:Ky) (hp:tmps[p]? =some (.pointer (some ⟨B,0,none⟩))) (hb:KyAt W B e):
  (results fn tmps).run Tryz.prog W=.ok (.agg #[.int .i64 e.bas,.int .i64 e.stp]) W:=by
 have h:=run_loadVar_row W B _ 46 _ _ _ hb Tryz.underlying46 rfl infoKy;simp [results,hf,hp,asAddr,h]
theorem SK.two {w W:World} {B K:Nat} {t:Tr} (h:SK w W B K t) {A:Nat} (h1:B≠A) (h2:K≠A) (h3:w.heap.size≤A) (a b:Int):SK w ((W.setCell ⟨A,0,none⟩ (.int .i64 a)).setCell ⟨A,1,none⟩ (.int .i64 b)) B K t:=
 ⟨(Rt.set2_other h1 _ _ _ _).trans h.tr,h.ky.elim fun e he=>⟨e,(Rt.set2_other h2 _ _ _ _).trans he⟩,Rt.set2_below h.bel h3 _ _ _ _,h.ne,h.ge⟩
theorem take_snoc2 {l:List (Int×Int)} {k:Nat} (h:k<l.length):l.take (k+1)=l.take k++[l.getD k (0,0)]:=by
 rw [List.take_add_one,List.getD_eq_getElem?_getD,List.getElem?_eq_getElem h];rfl
def KyE (k:Ky):Ending:=.returned (.agg #[.int .i64 k.bas,.int .i64 k.stp])
set_option maxRecDepth 100000 in
set_option maxHeartbeats 1000000 in
theorem keyAt_any (t:Tr) (v:Nat) (hv:v<85) (he:t.ep<9223372036854775808) (w:World):Calls Tryz.prog 256 #[.agg (tcs t),.int .i64 (v:Int)] w fun e w'=>e=KyE (kyA t v)∧Below w.heap.size w w':=by
 have hS:=SK.new w t;have hs:=Sh.slot_any (v:Int);obtain ⟨ct,hct⟩:∃c,tcs t=c:=⟨_,rfl⟩;have HT:Hid (tcs t=ct):=hct;clear hct;go_enter Tryz.func256,Tryz.ntmps256;go_upto_region 1 with (fail)
 generalize (w.alloc (.cells (tcs t) 54)).alloc (.cells #[.int .i64 0,.int .i64 0] 46)=w1 at *;rw [HT.out];obtain ⟨K,hK⟩:∃K,w.heap.size+1=K:=⟨_,rfl⟩;rw [hK] at hS ⊢;obtain ⟨B,hB⟩:∃B,w.heap.size=B:=⟨_,rfl⟩;rw [hB] at hS ⊢;clear hK hB;rcases Nat.lt_or_ge v 21 with hn | hn
 ·rw [Sh.slo_no (by omega)] at hs;obtain ⟨k,hk⟩:=hS.ky;have n0:(0:Int)≤(v:Int):=by omega
  have n1:(v:Int)<21:=by omega
  obtain ⟨c0,c1⟩:=hS.tr.key v hn;have HA:Hid (kyA t v=t.ks v):=kyA_in hn;obtain ⟨e,he⟩:∃e,t.ks v=e:=⟨_,rfl⟩;rw [he] at c0 c1 HA;clear he;go_wp2_with (first | (go_at_call 175;refine (hs _).mono ?_;rintro r w' ⟨rfl,rfl⟩) | (refine stKy hk e rfl _ _ rfl rfl rfl ?_))
  refine bodyPost_ret (results_ky1 (p:=4) rfl _ _ K e rfl (KyAt.row hk _)) rfl ?_;exact ⟨by rw [HA.out];rfl,Rt.setRow_below hS.ge hS.bel _⟩
 ·obtain ⟨s,rfl⟩:∃s,v=21+s:=⟨v - 21,by omega⟩;have hs8:s<64:=by omega
  rw [show (((21+s:Nat):Int))=21+(s:Int) by push_cast;rfl] at hs ⊢;rw [Sh.slo_yes (by omega) (by omega),show 21+(s:Int) - 21=(s:Int) by omega] at hs;have hlf:=Rt.leafAt_any (t.ro s).who (t.ro s).bas (t.ro s).snc t.ep he;unfold Rt.LeafA at hlf;have HA:Hid (kyA t (21+s)=⟨lfB (t.ro s).bas (t.ro s).snc t.ep,lfS (t.ro s).bas (t.ro s).snc t.ep⟩):=kyA_leaf;obtain ⟨X,hX⟩:∃X,lfB (t.ro s).bas (t.ro s).snc t.ep=X:=⟨_,rfl⟩;obtain ⟨Y,hY⟩:∃Y,lfS (t.ro s).bas (t.ro s).snc t.ep=Y:=⟨_,rfl⟩;obtain ⟨E,hE⟩:∃E,lfE (t.ro s).bas (t.ro s).snc t.ep=E:=⟨_,rfl⟩;simp only [hX,hY,hE] at hlf;rw [hX,hY] at HA;clear hX hY hE;have s2:decide ((s:Int)<0)=false:=decide_eq_false (by omega);obtain ⟨v,hv⟩:∃v,21+(s:Int)=v:=⟨_,rfl⟩;rw [hv] at hs ⊢;clear hv;go_upto_region 4 with (go_at_call 175;refine (hs _).mono ?_;rintro r w1 ⟨rfl,rfl⟩)
  go_cut [6] (fun s6 wx=>∃A,s6=.pointer (some ⟨A,0,none⟩)∧SK w wx B K t∧KyAt wx A ⟨X,Y⟩)
  case first=>
   have hS0:SK w w1.drew B K t:=hS.later (drew_below _);have HN:Hid (B≠w1.heap.size∧K≠w1.heap.size∧w.heap.size≤w1.heap.size):=⟨Nat.ne_of_lt hS.tr.lt,hS.ky.elim fun e he=>Nat.ne_of_lt he.lt,hS.bel.size⟩;clear hS s2 hs;have s0:(0:Int)≤(s:Int):=by omega
   have s1:(s:Int)<64:=by omega
   obtain ⟨e,he⟩:∃e,t.ro s=e:=⟨_,rfl⟩;rw [he] at hlf;have HE:Hid (t.ro s=e):=he;clear he;refine wp_region_held_drew (S:=fun W=>SK w W B K t) (by kernel_rfl) hS0 (fun hHeld=>?_);refine opX 0 (.int .i64 (s:Int)) rfl ?_;go_frame;refine opX 1 (.pointer (some ⟨B,44,none⟩)) rfl ?_;go_frame;refine opX 2 (.pointer (some ⟨B,44+s * 3,none⟩)) rfl ?_;go_frame;refine opY 3 (.agg #[.int .i64 e.who,.int .i64 e.bas,.int .i64 e.snc]) rfl (fun w hSw=>by obtain ⟨c0,c1,c2⟩:=hSw.tr.ent s hs8;rw [HE.out] at c0 c1 c2;clear hSw;go_simp) ?_;go_frame;refine opX 4 (.pointer (some ⟨B,0,none⟩)) rfl ?_;go_frame;refine opY 5 (.int .i64 t.ep) rfl (fun w hSw=>by obtain ⟨c0,c1⟩:=hSw.tr.cells;clear hSw;go_simp) ?_;go_frame;refine wpAnyH_ready (rs:=[6,10]) (by kernel_rfl) (by simp) ?_;refine (AllReadyH.cons rfl (fun K hK=>?_) (AllReadyH.cons rfl (fun K hK=>?_) AllReadyH.nil))
   ·go_simp
    refine (hlf _).mono ?_;rintro r w5 ⟨rfl,hb5⟩;go_wp2_with fail
    refine hK.out _ _ (hHeld.later hb5) (fun hHd1=>?_);clear hHeld hb5;clear hK K;try go_frame
    refine opX 7 (.tuple #[.agg #[.int .i64 X,.int .i64 Y],.int .i64 E]) rfl ?_;go_frame;refine opX 8 (.agg #[.int .i64 X,.int .i64 Y]) rfl ?_;go_frame;refine opX 9 (.int .i64 E) rfl ?_;go_frame;refine rdy 10 rfl fun K hK=>?_;go_simp
    have hpre:=hHd1;refine hK.out _ _ (hHd1.later (below_alloc _ _)) (fun hHd2=>?_);clear hK K;try go_frame
    refine rdy 11 rfl fun K hK=>?_;go_simp
    first | (refine hK.out _ _ (hpre.later (below_alloc _ _)) (fun hHd3=>?_);have hkyZ:KyAt (w5.alloc (.cells #[.int .i64 X,.int .i64 Y] 46)) w5.heap.size ⟨X,Y⟩:=KyAt.new w5 ⟨X,Y⟩) | (refine hK.out _ _ (hHd2.two HN.out.1 HN.out.2.1 HN.out.2.2 _ _) (fun hHd3=>?_);have hkyZ:=KyAt.set hky2 X Y)
    clear hK K;try go_frame
    refine opX 12 (.int .i64 E) rfl ?_;go_frame;refine wpAnyH_done (by kernel_rfl) ?_ _;go_wp2_with fail
    go_meet
    case rel=>exact ⟨_,rfl,hHd3,hkyZ⟩
   ·go_simp
    have hky:KyAt (w1.drew.alloc (.cells #[.int .i64 0,.int .i64 0] 46)) w1.heap.size zK:=KyAt.new w1.drew zK;refine hK.out _ _ (hHeld.later (below_alloc _ _)) (fun hHd1=>?_);clear hHeld;clear hK K;try go_frame
    refine rdy 6 rfl fun K hK=>?_;go_simp
    refine (hlf _).mono ?_;rintro r w5 ⟨rfl,hb5⟩;go_wp2_with fail
    have hky2:=hky.later hb5;obtain ⟨k0,k1⟩:=hky2.cells;have f0:=Rt.row_frozen hky2 0;have f1:=Rt.row_frozen hky2 1;refine hK.out _ _ (hHd1.later hb5) (fun hHd2=>?_);clear hHd1 hb5 hky;clear hK K;try go_frame
    refine opX 7 (.tuple #[.agg #[.int .i64 X,.int .i64 Y],.int .i64 E]) rfl ?_;go_frame;refine opX 8 (.agg #[.int .i64 X,.int .i64 Y]) rfl ?_;go_frame;refine opX 9 (.int .i64 E) rfl ?_;go_frame;refine rdy 11 rfl fun K hK=>?_;go_simp
    first | (refine hK.out _ _ (hpre.later (below_alloc _ _)) (fun hHd3=>?_);have hkyZ:KyAt (w5.alloc (.cells #[.int .i64 X,.int .i64 Y] 46)) w5.heap.size ⟨X,Y⟩:=KyAt.new w5 ⟨X,Y⟩) | (refine hK.out _ _ (hHd2.two HN.out.1 HN.out.2.1 HN.out.2.2 _ _) (fun hHd3=>?_);have hkyZ:=KyAt.set hky2 X Y)
    clear hK K;try go_frame
    refine opX 12 (.int .i64 E) rfl ?_;go_frame;refine wpAnyH_done (by kernel_rfl) ?_ _;go_wp2_with fail
    go_meet
    case rel=>exact ⟨_,rfl,hHd3,hkyZ⟩
  case rest=>
   obtain ⟨A,rfl,hS9,hky9⟩:=hcut;obtain ⟨k0,k1⟩:=hky9.cells;dsimp only at k0 k1;obtain ⟨k,hk⟩:=hS9.ky;go_wp2_with (refine stKy hk ⟨X,Y⟩ rfl _ _ rfl rfl rfl ?_)
   refine bodyPost_ret (results_ky1 (p:=4) rfl _ _ K ⟨X,Y⟩ rfl (KyAt.row hk ⟨X,Y⟩)) rfl ?_;exact ⟨by rw [HA.out];rfl,Rt.setRow_below hS9.ge hS9.bel _⟩
/- The tree and the batch, boxed. -/
def BtAt (w:World) (B:Nat) (aL aJ:Option Addr) (nL nJ cL cJ:Nat):Prop:=w.heap[B]? =some (.cells #[.slice aL nL cL,.slice aJ nJ cJ] 41 (0,0))
theorem BtAt.cells {w:World} {B:Nat} {aL aJ:Option Addr} {nL nJ cL cJ:Nat} (h:BtAt w B aL aJ nL nJ cL cJ):w.cell? ⟨B,0,none⟩=some (.slice aL nL cL)∧w.cell? ⟨B,1,none⟩=some (.slice aJ nJ cJ):=
 ⟨cell_of_row w B 0 _ _ _ h,cell_of_row w B 1 _ _ _ h⟩
theorem BtAt.later {w w':World} {B:Nat} {aL aJ:Option Addr} {nL nJ cL cJ:Nat} (h:BtAt w B aL aJ nL nJ cL cJ) (hb:Below w.heap.size w w'):BtAt w' B aL aJ nL nJ cL cJ:=(hb.block B (Array.getElem?_eq_some_iff.1 h).1).trans h
structure TB (w W:World) (B C:Nat) (t:Tr) (aL aJ:Option Addr) (nL nJ cL cJ:Nat):Prop where
 tr:TrAt W B t
 bt:BtAt W C aL aJ nL nJ cL cJ
 bel:Below w.heap.size w W
theorem TB.later {w W W':World} {B C:Nat} {t:Tr} {aL aJ:Option Addr} {nL nJ cL cJ:Nat} (h:TB w W B C t aL aJ nL nJ cL cJ) (hb:Below W.heap.size W W'):TB w W' B C t aL aJ nL nJ cL cJ:=⟨h.tr.later hb,h.bt.later hb,h.bel.trans (hb.mono h.bel.size)⟩
theorem TB.new (w:World) (t:Tr) (aL aJ:Option Addr) (nL nJ cL cJ:Nat):TB w ((w.alloc (.cells (tcs t) 54)).alloc (.cells #[.slice aL nL cL,.slice aJ nJ cJ] 41)) w.heap.size (w.heap.size+1) t aL aJ nL nJ cL cJ:=by
 have h1:=TrAt.new w t;have hb1:=alloc_tr w t;have h2:=heap_alloc_last (w.alloc (.cells (tcs t) 54)) (.cells #[.slice aL nL cL,.slice aJ nJ cJ] 41);have hb2:=below_alloc (w.alloc (.cells (tcs t) 54)) (.cells #[.slice aL nL cL,.slice aJ nJ cJ] 41);rw [World.size_alloc] at h2;exact ⟨h1.later hb2,h2,hb1.trans (hb2.mono hb1.size)⟩
def alE (t:Tr) (L J:List Int):Int:=if tck t then (if t.ep=200 then 19 else ft t.ro L J) else 31
set_option maxRecDepth 100000 in
set_option maxHeartbeats 1000000 in
theorem allowed_any (t:Tr) (aL aJ:Option Addr) (cL cJ:Nat) (L J:List Int) (w:World) (lL:L.length<1152921504606846976) (lJ:J.length<1152921504606846976) (hL:RdI w aL L) (hJ:RdI w aJ J):
  Calls Tryz.prog 189 #[.agg (tcs t),.agg #[.slice aL L.length cL,.slice aJ J.length cJ]] w fun e w'=>e=.returned (.int .i64 (alE t L J))∧Below w.heap.size w w':=by
 have hS:=TB.new w t aL aJ L.length J.length cL cJ;have h1:=check_any t;have h2:∀W,Below w.heap.size w W→_:=fun W hW=>Rs.fits_any t.ro aL aJ cL cJ L J W lL lJ (hL.later hW) (hJ.later hW)
 obtain ⟨ct,hct⟩:∃c,tcs t=c:=⟨_,rfl⟩;obtain ⟨cr,hcr⟩:∃c,rcs t.ro=c:=⟨_,rfl⟩;simp only [hct] at h1;simp only [hcr] at h2;have HT:Hid (tcs t=ct):=hct;have HR:Hid (rcs t.ro=cr):=hcr;clear hct hcr;go_enter Tryz.func189,Tryz.ntmps189;go_upto_region 1 with (fail)
 generalize (w.alloc (.cells (tcs t) 54)).alloc (.cells #[.slice aL L.length cL,.slice aJ J.length cJ] 41)=w1 at *;rw [HT.out];have hT1:=hS.tr;obtain ⟨C,hC⟩:∃C,w.heap.size+1=C:=⟨_,rfl⟩;rw [hC] at hS ⊢;obtain ⟨B,hB⟩:∃B,w.heap.size=B:=⟨_,rfl⟩;rw [hB] at hS hT1 ⊢;have HBB:Hid (w.heap.size=B):=hB;clear hC hB;go_wp2_with (refine rdT hT1 HT.out _ rfl rfl rfl ?_)
 refine (h1 _).mono ?_;rintro r w2 ⟨rfl,hb2⟩;have hS2:=hS.later hb2;clear h1 hS hT1 hb2
 cases hck:tck t with
 | false=>
  rw [tckE_ff hck];go_wp2_with fail
  go_ret;exact ⟨ret_int (by unfold alE;rw [hck];rfl),hS2.bel⟩
 | true=>
  rw [tckE_tt hck];obtain ⟨c0,c1⟩:=hS2.tr.cells;obtain ⟨e,he⟩:∃e,t.ep=e:=⟨_,rfl⟩;rw [he] at c0;by_cases hp:e=200
  ·subst hp;go_wp2_with fail
   go_ret;exact ⟨ret_int (by unfold alE;rw [hck,if_pos rfl,if_pos he]),hS2.bel⟩
  ·have hd:(e==200)=false:=by simpa using hp
   have HE:Hid (alE t L J=ft t.ro L J):=by show alE t L J=_;unfold alE;rw [hck,if_pos rfl,if_neg (by rw [he];exact hp)]
   have hT2:=hS2.tr;obtain ⟨d0,d1⟩:=hS2.bt.cells;have h3:=h2 w2 hS2.bel;clear he hp h2;go_wp2_with (refine rdR hT2 HR.out _ rfl rfl rfl ?_)
   refine h3.mono ?_;rintro r w3 ⟨rfl,hb3⟩;have hS3:=hS2.later hb3;clear h3 hb3 hS2 hT2 c0 c1 d0 d1;go_wp2_with fail
   go_ret;exact ⟨ret_int HE.out.symm,hS3.bel⟩
/- The seats' slots. -/
set_option maxRecDepth 100000 in
set_option maxHeartbeats 1000000 in
theorem replaced_any (a:Option Addr) (c:Nat) (l:List (Int×Int)) (w:World) (hl:l.length<1152921504606846976) (hr:RdS w a l):
  Calls Tryz.prog 191 #[.slice a l.length c] w fun e w'=>e=.returned (.int .u32 ((rp l:Nat):Int))∧Below w.heap.size w w':=by
 have h1:=fun s (hs:s<18446744073709551616) n=>Rs.put_any s hs n
 have h2:=Sh.above_any ((sw l:Nat):Int) (by omega) (by have:=sw_lt l;omega);rw [abv_rp] at h2;go_enter Tryz.func191,Tryz.ntmps191;go_wp2_with fail
 go_loopw [3,10] (fun s i wx=>∃k:Nat,k≤l.length∧i=.int .i64 (k:Int)∧s=.int .u64 ((sw (l.take k):Nat):Int)∧Below w.heap.size w wx) (fun _ i _=>l.length - (intOf i).toNat)
 case atStart=>exact ⟨0,by omega,rfl,by simp [sw],Below.refl _ _⟩
 case round=>
  obtain ⟨k,hk,rfl,rfl,hb⟩:=hrel;have HB:Hid (Below w.heap.size w wr):=hb;clear hb;by_cases hkN:k<l.length
  ·have i1:(0:Int)≤(k:Int):=by omega
   have i2:(k:Int)<(l.length:Int):=by omega
   obtain ⟨b,hal,hc0,hc1⟩:=(hr.later HB.out) k hkN
   have HT:Hid (sw (l.take (k+1))=sw1 (sw (l.take k)) (l.getD k (0,0))):=by
    show sw (l.take (k+1))=_
    rw [take_snoc2 hkN,sw_snoc]
   have hlt:=sw_lt (l.take k);obtain ⟨s,hs⟩:∃s,sw (l.take k)=s:=⟨_,rfl⟩;obtain ⟨p,hp⟩:∃p,l.getD k (0,0)=p:=⟨_,rfl⟩;rw [hs] at hlt HT;rw [hs];rw [hp] at hc0 hc1 HT;have h3:=h1 s hlt p.2;clear hs hp h1 h2;subst hal;have HB2:Hid (Below w.heap.size w (wr.alloc (.cells #[.int .i64 p.1,.int .i64 p.2] 165))):=HB.out.alloc HB.out.size _;unfold sw1 at HT
   cases hsl:sl p.2 with
   | false=>
    rw [hsl] at HT;rw [Rs.putR_no hsl] at h3;go_wp2_with (go_at_call 251;refine (h3 _).mono ?_;rintro r w' ⟨rfl,rfl⟩)
    go_roundw
    case rel=>exact ⟨k+1,by omega,by go_num,by rw [HT.out];rfl,HB2.out⟩
    case measure=>simp [intOf];omega
   | true=>
    obtain ⟨n,hn,hn64⟩:=Rs.sl_nat hsl;rw [hsl,hn,if_pos rfl,Int.toNat_natCast] at HT;rw [hn,Rs.putR_sl hn64] at h3;rw [hn] at hc1;obtain ⟨z,hz⟩:∃z,put s n=z:=⟨_,rfl⟩;rw [hz] at HT h3;clear hz;rw [hn] at HB2;go_wp2_with (go_at_call 251;refine (h3 _).mono ?_;rintro r w' ⟨rfl,rfl⟩)
    go_roundw
    case rel=>exact ⟨k+1,by omega,by go_num,by rw [HT.out],HB2.out⟩
    case measure=>simp [intOf];omega
  ·obtain rfl:k=l.length:=by omega
   have hdk:decide ((l.length:Int)<(l.length:Int))=false:=by simp
   rw [List.take_length];clear h1;go_wp2_with (go_at_call 252;refine (h2 _).mono ?_;rintro r w' ⟨rfl,hb'⟩)
   go_ret;exact ⟨rfl,by first | exact HB.out | exact HB.out.trans (hb'.mono HB.out.size)⟩
open Rt (Ky zK kcs KyAt Gd)
open Rs (En zE rcs RoAt tkn)
/- Items as cells. -/
def ics (x:It):List Value:=[.int .i64 x.nd,.int .i64 x.fm,.int .i64 x.un.bas,.int .i64 x.un.stp,.int .i64 x.ld.bas,.int .i64 x.ld.stp]
def isl (l:List It):List Value:=l.flatMap ics
theorem isl_snoc (l:List It) (x:It):isl (l++[x])=isl l++ics x:=by simp [isl]
theorem infoItem:(Tryz.prog.info? 121).map (fun i=>(i.zero,i.size,i.bytes))=some (some (.agg #[.int .i64 0,.int .i64 0,.int .i64 0,.int .i64 0,.int .i64 0,.int .i64 0]),6,48):=by kernel_rfl
theorem infoItem_parts:∃i,Tryz.prog.info? 121=some i∧i.zero=some (.agg #[.int .i64 0,.int .i64 0,.int .i64 0,.int .i64 0,.int .i64 0,.int .i64 0])∧i.size=6∧i.bytes=48:=by
 have h:=infoItem
 cases hq:Tryz.prog.info? 121 with
 | none=>rw [hq] at h;cases h
 | some i=>
  rw [hq] at h;simp at h;exact ⟨i,rfl,h.1,h.2.1,h.2.2⟩
theorem cell_row_new (w:World) (cs:Array Value) (t:TypeId):∀j u,cs.toList[j]? =some u→(w.alloc (.cells cs t)).cell? ((⟨w.heap.size,0,none⟩:Addr).add j)=some u:=by
 intro j u hu
 have hadd:(⟨w.heap.size,0,none⟩:Addr).add j=⟨w.heap.size,j,none⟩:=by
  unfold Addr.add;simp;intro h;exact h.symm
 rw [hadd,cell_of_row _ _ j _ _ _ (heap_alloc_last w _)]
 simpa using hu
/- What other blocks there are stays. -/
theorem block_ne {w:World} {A B:Nat} {cs ds:Array Value} {T S:TypeId} {fz gz:Nat×Nat} (h:w.heap[A]? =some (.cells cs T fz)) (h2:w.heap[B]? =some (.cells ds S gz)) (hne:T≠S):A≠B:=by
 rintro rfl;rw [h] at h2;simp at h2;exact hne h2.2.1
def KeptT (W W':World):Prop:=∀(k:Nat) (cs:Array Value) (T:TypeId),W.heap[k]? =some (.cells cs T (0,0))→T≠121→T≠76→W'.heap[k]? =some (.cells cs T (0,0))
theorem KeptT.refl (W:World):KeptT W W:=fun k cs T h _ _=>h
theorem KeptT.trans {W W' W2:World} (h:KeptT W W') (h2:KeptT W' W2):KeptT W W2:=fun k cs T hk h3 h4=>h2 k cs T (h k cs T hk h3 h4) h3 h4
theorem KeptT.below {W W':World} (hb:Below W.heap.size W W'):KeptT W W':=fun k cs T h _ _=>(hb.block k (Array.getElem?_eq_some_iff.1 h).1).trans h
/- The tree, boxed, and the list that is gathered. -/
structure GL (w W:World) (BT BL n0:Nat) (t:Tr) (vl:Value) (l:List It):Prop where
 tr:TrAt W BT t
 li:W.heap[BL]? =some (.cells #[vl] 76 (0,0))
 row:W.ownsRow n0 121 6 vl l.length (isl l)
 bel:Below w.heap.size w W
 bt:BT<n0
 bl:BL<n0
 ne:BT≠BL
 wl:w.heap.size≤BL
 sz:n0≤W.heap.size
theorem GL.later {w W W':World} {BT BL n0:Nat} {t:Tr} {vl:Value} {l:List It} (h:GL w W BT BL n0 t vl l) (hb:Below W.heap.size W W'):GL w W' BT BL n0 t vl l:=
 ⟨h.tr.later hb,(hb.block BL (Array.getElem?_eq_some_iff.1 h.li).1).trans h.li,Rs.owns_later h.row hb,h.bel.trans (hb.mono h.bel.size),h.bt,h.bl,h.ne,h.wl,Nat.le_trans h.sz hb.size⟩
theorem GL.cell {w W:World} {BT BL n0:Nat} {t:Tr} {vl:Value} {l:List It} (h:GL w W BT BL n0 t vl l):W.cell? ⟨BL,0,none⟩=some vl:=cell_of_row W BL 0 _ _ _ h.li
structure GH (w W W':World) (BT BL n0:Nat) (t:Tr) (vl:Value) (l:List It):Prop where
 g:GL w W' BT BL n0 t vl l
 k:KeptT W W'
 sz:W.heap.size≤W'.heap.size
theorem GH.later {w W W' W2:World} {BT BL n0:Nat} {t:Tr} {vl:Value} {l:List It} (h:GH w W W' BT BL n0 t vl l) (hb:Below W'.heap.size W' W2):GH w W W2 BT BL n0 t vl l:=
 ⟨h.g.later hb,h.k.trans (KeptT.below hb),Nat.le_trans h.sz hb.size⟩
def BxAt (w:World) (B:Nat) (a b:Ky):Prop:=w.heap[B]? =some (.cells #[.int .i64 a.bas,.int .i64 a.stp,.int .i64 b.bas,.int .i64 b.stp] 85 (0,0))
theorem BxAt.cells {w:World} {B:Nat} {a b:Ky} (h:BxAt w B a b):w.cell? ⟨B,0,none⟩=some (.int .i64 a.bas)∧w.cell? ⟨B,1,none⟩=some (.int .i64 a.stp)∧w.cell? ⟨B,2,none⟩=some (.int .i64 b.bas)∧w.cell? ⟨B,3,none⟩=some (.int .i64 b.stp):=
 ⟨cell_of_row w B 0 _ _ _ h,cell_of_row w B 1 _ _ _ h,cell_of_row w B 2 _ _ _ h,cell_of_row w B 3 _ _ _ h⟩
theorem BxAt.later {w w':World} {B:Nat} {a b:Ky} (h:BxAt w B a b) (hb:Below w.heap.size w w'):BxAt w' B a b:=(hb.block B (Array.getElem?_eq_some_iff.1 h).1).trans h
theorem BxAt.set {w:World} {B:Nat} {a b:Ky} (h:BxAt w B a b) (c d:Ky):BxAt ((((w.setCell ⟨B,0,none⟩ (.int .i64 c.bas)).setCell ⟨B,1,none⟩ (.int .i64 c.stp)).setCell ⟨B,2,none⟩ (.int .i64 d.bas)).setCell ⟨B,3,none⟩ (.int .i64 d.stp)) B c d:=by
 have h3:=Rt.row_setCell (Rt.row_setCell (Rt.row_setCell (Rt.row_setCell h 0 (.int .i64 c.bas)) 1 (.int .i64 c.stp)) 2 (.int .i64 d.bas)) 3 (.int .i64 d.stp);exact h3
theorem set4_other {w:World} {B C:Nat} (h:C≠B) (v0 v1 v2 v3:Value):((((w.setCell ⟨B,0,none⟩ v0).setCell ⟨B,1,none⟩ v1).setCell ⟨B,2,none⟩ v2).setCell ⟨B,3,none⟩ v3).heap[C]? =w.heap[C]? :=by
 rw [Rt.other_setCell h,Rt.other_setCell h,Rt.other_setCell h,Rt.other_setCell h]
theorem set4_below {n:Nat} {w W:World} (h:Below n w W) {B:Nat} (hB:n≤B) (v0 v1 v2 v3:Value):Below n w ((((W.setCell ⟨B,0,none⟩ v0).setCell ⟨B,1,none⟩ v1).setCell ⟨B,2,none⟩ v2).setCell ⟨B,3,none⟩ v3):=
 (((h.setCell (p:=⟨B,0,none⟩) hB v0).setCell (p:=⟨B,1,none⟩) hB v1).setCell (p:=⟨B,2,none⟩) hB v2).setCell (p:=⟨B,3,none⟩) hB v3
/- A box of its own is written. -/
theorem GH.four {w W W':World} {BT BL n0:Nat} {t:Tr} {vl:Value} {l:List It} (h:GH w W W' BT BL n0 t vl l) {A:Nat} {a b:Ky} (hx:BxAt W' A a b) (hA:W.heap.size≤A) (hw:w.heap.size≤W.heap.size) (v0 v1 v2 v3:Value):
  GH w W ((((W'.setCell ⟨A,0,none⟩ v0).setCell ⟨A,1,none⟩ v1).setCell ⟨A,2,none⟩ v2).setCell ⟨A,3,none⟩ v3) BT BL n0 t vl l:=by
 have n1:BT≠A:=block_ne h.g.tr hx (by decide);have n2:BL≠A:=block_ne h.g.li hx (by decide);refine ⟨⟨(set4_other n1 _ _ _ _).trans h.g.tr,(set4_other n2 _ _ _ _).trans h.g.li,?_,set4_below h.g.bel (by omega) _ _ _ _,h.g.bt,h.g.bl,h.g.ne,h.g.wl,by have:=h.g.sz;simpa using this⟩,fun k cs T hk h1 h2=>?_,?_⟩
 ·obtain ⟨q1,q2⟩:=h.g.row;refine ⟨q1,?_⟩;rcases q2 with q2 | ⟨g,cap,cur,rfl,h3,h4,r⟩
  ·exact .inl q2
  ·exact .inr ⟨g,cap,cur,rfl,h3,(set4_other (block_ne h4 hx (by decide)) _ _ _ _).trans h4,r⟩
 ·have hkl:=(Array.getElem?_eq_some_iff.1 hk).1;rw [set4_other (by omega)];exact h.k k cs T hk h1 h2
 ·have:=h.sz
  simpa using this
theorem GL.app {w W W1:World} {BT BL n0:Nat} {t:Tr} {vl v':Value} {l:List It} {o:Obj} {x:It} (h:GL w W BT BL n0 t vl l) (hown:W1.ownsRow n0 121 6 v' (l.length+1) (isl l++ics x)) (hg:(W.alloc o).grownBy W1 vl.ownBlock):
  W1.heap[BL]? =some (.cells #[vl] 76 (0,0))∧GL w (W1.setCell ⟨BL,0,none⟩ v') BT BL n0 t v' (l++[x]):=by
 have hs1:=h.tr.lt;have hs2:=(Array.getElem?_eq_some_iff.1 h.li).1
 have blk:∀k,k<n0→k<W.heap.size→W1.heap[k]? =W.heap[k]? :=fun k hk hk2=>by
  rw [hg.block k (by simp;omega) (Rs.row_far h.row hk)];exact ((Below.refl _ W).alloc (Nat.le_refl _) o).block k (by omega)
 have hli:W1.heap[BL]? =some (.cells #[vl] 76 (0,0)):=(blk _ h.bl hs2).trans h.li;have hwl:=h.wl;have hbl:=h.bl;have hsz:n0≤W1.heap.size:=by have h1:=hg.size;have h2:=h.sz;simp at h1;omega
 refine ⟨hli,⟨?_,?_,?_,?_,h.bt,h.bl,h.ne,h.wl,by simpa using hsz⟩⟩
 ·exact (Rt.other_setCell h.ne _ _).trans ((blk _ h.bt hs1).trans h.tr)
 ·exact Rt.row_setCell hli 0 v'
 ·rw [isl_snoc,List.length_append];exact Rs.owns_block hown fun j hj _=>Rt.other_setCell (by omega) _ _
 ·refine Below.setCell (p:=⟨BL,0,none⟩) ?_ h.wl _;have b1:=h.bel.alloc h.bel.size o
  exact Below.grown b1 hg (by have:=h.bel.size;simp;omega) fun j hj=>by
   rcases Nat.lt_or_ge j n0 with hlt | hge
   ·exact absurd hj.symm (Rs.row_far h.row hlt)
   ·omega
theorem own_type {W:World} {b:Nat} {e:TypeId} {sz:Nat} {v:Value} {n:Nat} {xs:List Value} (h:W.ownsRow b e sz v n xs) {k:Nat} {cs:Array Value} {T:TypeId} {fz:Nat×Nat} (hk:W.heap[k]? =some (.cells cs T fz)) (hT:T≠e):some k≠v.ownBlock:=by
 intro he;rcases h.2 with ⟨rfl,_⟩ | ⟨g,cap,cur,rfl,h3,h4,_⟩
 ·simp [Value.ownBlock] at he
 ·simp [Value.ownBlock] at he;subst he;rw [hk] at h4;simp at h4;exact hT h4.2.1
theorem GL.appK {w W W1:World} {BT BL n0:Nat} {t:Tr} {vl v':Value} {l:List It} {o:Obj} (h:GL w W BT BL n0 t vl l) (hg:(W.alloc o).grownBy W1 vl.ownBlock):KeptT W (W1.setCell ⟨BL,0,none⟩ v'):=fun k cs T hk h1 h2=>by
 have hkl:=(Array.getElem?_eq_some_iff.1 hk).1;have hne:k≠BL:=block_ne hk h.li h2;rw [Rt.other_setCell hne,hg.block k (by simp;omega) (own_type h.row hk h1)];exact (((Below.refl _ W).alloc (Nat.le_refl _) o).block k (by omega)).trans hk
def GiveP (w W W':World) (BT BL n0:Nat) (t:Tr) (l:List It):Prop:=∃vl',GL w W' BT BL n0 t vl' l∧KeptT W W'
theorem GiveP.of {w W W':World} {BT BL n0:Nat} {t:Tr} {l:List It} {v:Value} (h:GL w W' BT BL n0 t v l) (k:KeptT W W'):GiveP w W W' BT BL n0 t l:=⟨v,h,k⟩
set_option maxRecDepth 100000 in
set_option maxHeartbeats 2000000 in
theorem give_any (t:Tr) (v c:Nat) (hv:v<21) (hc:c<85) (he:t.ep<9223372036854775808) (g1:Gd (kyA t c).bas (kyA t c).stp) (g2:Gd (t.ks v).bas (t.ks v).stp) {w W:World} {BT BL n0:Nat} {vl:Value} {l:List It} (hG:GL w W BT BL n0 t vl l) (hlen:l.length≤4096):
  Calls Tryz.prog 255 #[.int .i64 (v:Int),.int .i64 (c:Int),.pointer (some ⟨BT,0,none⟩),.pointer (some ⟨BL,0,none⟩)] W fun e W'=>e=.returned (.tuple #[])∧GiveP w W W' BT BL n0 t (l++[mkI t v c]):=by
 have h1:=keyAt_any t c hc he;have h2:=Rt.seal_yes (kyA t c).bas (kyA t c).stp (t.ks v).bas (t.ks v).stp g1 g2;unfold KyE at h1;have HI:Hid (mkI t v c=⟨v,c,kyA t c,t.ks v⟩):=by show mkI t v c=_;unfold mkI;rw [kyA_in hv]
 obtain ⟨a,ha⟩:∃a,kyA t c=a:=⟨_,rfl⟩;obtain ⟨b,hb⟩:∃b,t.ks v=b:=⟨_,rfl⟩;rw [ha] at HI h2;simp only [ha] at h1;rw [hb] at HI h2;have HB:Hid (t.ks v=b):=hb;obtain ⟨ct,hct⟩:∃c,tcs t=c:=⟨_,rfl⟩;simp only [hct] at h1;have HT:Hid (tcs t=ct):=hct;obtain ⟨i0,hi,hz0,hz1,hz2⟩:=infoItem_parts;have HL:Hid (l.length≤4096):=hlen;clear hct ha hb g1 g2 hlen;have v0:(0:Int)≤(v:Int):=by omega
 have v1:(v:Int)<21:=by omega
 have hWw:w.heap.size≤W.heap.size:=hG.bel.size;have hG0:GH w W W BT BL n0 t vl l:=⟨hG,KeptT.refl _,Nat.le_refl _⟩;clear hG;go_enter Tryz.func255,Tryz.ntmps255;go_upto_region 0 with (fail)
 go_cut [6] (fun s6 wx=>∃A,s6=.pointer (some ⟨A,0,none⟩)∧GH w W wx BT BL n0 t vl l∧BxAt wx A a b)
 case first=>
  have hS0:GH w W W.drew BT BL n0 t vl l:=hG0.later (drew_below _);clear hG0;refine wp_region_held_drew (S:=fun X=>GH w W X BT BL n0 t vl l) (by kernel_rfl) hS0 (fun hHeld=>?_);refine opY 0 (.agg ct) rfl (fun w hSw=>ld_exec (HT.out ▸ hSw.g.tr.whole) rfl rfl) ?_;go_frame;refine opX 1 (.int .i64 (c:Int)) rfl ?_;go_frame;refine opX 3 (.int .i64 (v:Int)) rfl ?_;go_frame;refine opX 4 (.pointer (some ⟨BT,2,none⟩)) rfl ?_;go_frame;refine opX 5 (.pointer (some ⟨BT,2+v * 2,none⟩)) rfl ?_;go_frame;refine opY 6 (.agg #[.int .i64 b.bas,.int .i64 b.stp]) rfl (fun w hSw=>by obtain ⟨c0,c1⟩:=hSw.g.tr.key v hv;rw [HB.out] at c0 c1;clear hSw;go_simp) ?_;go_frame;refine wpAnyH_ready (rs:=[2,11]) (by kernel_rfl) (by simp) ?_;refine (AllReadyH.cons rfl (fun K hK=>?_) (AllReadyH.cons rfl (fun K hK=>?_) AllReadyH.nil))
  ·go_simp
   refine (h1 _).mono ?_;rintro r w5 ⟨rfl,hb5⟩;go_wp2_with fail
   refine hK.out _ _ (hHeld.later hb5) (fun hHd1=>?_);clear hHeld hb5;clear hK K;try go_frame
   refine wpAnyH_ready (rs:=[7,11]) (by kernel_rfl) (by simp) ?_;refine (AllReadyH.cons rfl (fun K hK=>?_) (AllReadyH.cons rfl (fun K hK=>?_) AllReadyH.nil))
   ·go_simp
    refine (h2 _).mono ?_;rintro r w6 ⟨rfl,hb6⟩;go_wp2_with fail
    refine hK.out _ _ (hHd1.later hb6) (fun hHd2=>?_);clear hHd1 hb6;clear hK K;try go_frame
    refine opX 8 (.tuple #[.agg #[.int .i64 a.bas,.int .i64 a.stp,.int .i64 b.bas,.int .i64 b.stp],.int .i64 0]) rfl ?_;go_frame;refine opX 9 (.agg #[.int .i64 a.bas,.int .i64 a.stp,.int .i64 b.bas,.int .i64 b.stp]) rfl ?_;go_frame;refine opX 10 (.int .i64 0) rfl ?_;go_frame;refine rdy 11 rfl fun K hK=>?_;go_simp
    have hpre:=hHd2;refine hK.out _ _ (hHd2.later (below_alloc _ _)) (fun hHd3=>?_);clear hK K;try go_frame
    refine rdy 12 rfl fun K hK=>?_;go_simp
    first | (refine hK.out _ _ (hpre.later (below_alloc _ _)) (fun hHd4=>?_);have hbxZ:BxAt (w6.alloc (.cells #[.int .i64 a.bas,.int .i64 a.stp,.int .i64 b.bas,.int .i64 b.stp] 85)) w6.heap.size a b:=heap_alloc_last w6 _) | (refine hK.out _ _ (hHd3.four hbx6 hA hWw _ _ _ _) (fun hHd4=>?_);have hbxZ:=BxAt.set hbx6 a b)
    clear hK K;try go_frame
    refine opX 13 (.int .i64 0) rfl ?_;go_frame;refine wpAnyH_done (by kernel_rfl) ?_ _;go_wp2_with fail
    go_meet
    case rel=>exact ⟨_,rfl,hHd4,hbxZ⟩
   ·go_simp
    have hbx5:BxAt (w5.alloc (.cells #[.int .i64 0,.int .i64 0,.int .i64 0,.int .i64 0] 85)) w5.heap.size zK zK:=heap_alloc_last w5 _;have hA:W.heap.size≤w5.heap.size:=hHd1.sz;refine hK.out _ _ (hHd1.later (below_alloc _ _)) (fun hHd2=>?_);clear hHd1;clear hK K;try go_frame
    refine rdy 7 rfl fun K hK=>?_;go_simp
    refine (h2 _).mono ?_;rintro r w6 ⟨rfl,hb6⟩;go_wp2_with fail
    have hbx6:=hbx5.later hb6;obtain ⟨k0,k1,k2,k3⟩:=hbx6.cells;have f0:=Rt.row_frozen hbx6 0;have f1:=Rt.row_frozen hbx6 1;have f2:=Rt.row_frozen hbx6 2;have f3:=Rt.row_frozen hbx6 3;refine hK.out _ _ (hHd2.later hb6) (fun hHd3=>?_);clear hHd2 hb6 hbx5;clear hK K;try go_frame
    refine opX 8 (.tuple #[.agg #[.int .i64 a.bas,.int .i64 a.stp,.int .i64 b.bas,.int .i64 b.stp],.int .i64 0]) rfl ?_;go_frame;refine opX 9 (.agg #[.int .i64 a.bas,.int .i64 a.stp,.int .i64 b.bas,.int .i64 b.stp]) rfl ?_;go_frame;refine opX 10 (.int .i64 0) rfl ?_;go_frame;refine rdy 12 rfl fun K hK=>?_;go_simp
    first | (refine hK.out _ _ (hpre.later (below_alloc _ _)) (fun hHd4=>?_);have hbxZ:BxAt (w6.alloc (.cells #[.int .i64 a.bas,.int .i64 a.stp,.int .i64 b.bas,.int .i64 b.stp] 85)) w6.heap.size a b:=heap_alloc_last w6 _) | (refine hK.out _ _ (hHd3.four hbx6 hA hWw _ _ _ _) (fun hHd4=>?_);have hbxZ:=BxAt.set hbx6 a b)
    clear hK K;try go_frame
    refine opX 13 (.int .i64 0) rfl ?_;go_frame;refine wpAnyH_done (by kernel_rfl) ?_ _;go_wp2_with fail
    go_meet
    case rel=>exact ⟨_,rfl,hHd4,hbxZ⟩
  ·go_simp
   have hbx:BxAt (W.drew.alloc (.cells #[.int .i64 0,.int .i64 0,.int .i64 0,.int .i64 0] 85)) W.heap.size zK zK:=heap_alloc_last W.drew _;have hA:W.heap.size≤W.heap.size:=Nat.le_refl _;refine hK.out _ _ (hHeld.later (below_alloc _ _)) (fun hHd1=>?_);clear hHeld;clear hK K;try go_frame
   refine rdy 2 rfl fun K hK=>?_;go_simp
   refine (h1 _).mono ?_;rintro r w5 ⟨rfl,hb5⟩;go_wp2_with fail
   have hbx5:=hbx.later hb5;refine hK.out _ _ (hHd1.later hb5) (fun hHd2=>?_);clear hHd1 hb5 hbx;clear hK K;try go_frame
   refine rdy 7 rfl fun K hK=>?_;go_simp
   refine (h2 _).mono ?_;rintro r w6 ⟨rfl,hb6⟩;go_wp2_with fail
   have hbx6:=hbx5.later hb6;obtain ⟨k0,k1,k2,k3⟩:=hbx6.cells;have f0:=Rt.row_frozen hbx6 0;have f1:=Rt.row_frozen hbx6 1;have f2:=Rt.row_frozen hbx6 2;have f3:=Rt.row_frozen hbx6 3;refine hK.out _ _ (hHd2.later hb6) (fun hHd3=>?_);clear hHd2 hb6 hbx5;clear hK K;try go_frame
   refine opX 8 (.tuple #[.agg #[.int .i64 a.bas,.int .i64 a.stp,.int .i64 b.bas,.int .i64 b.stp],.int .i64 0]) rfl ?_;go_frame;refine opX 9 (.agg #[.int .i64 a.bas,.int .i64 a.stp,.int .i64 b.bas,.int .i64 b.stp]) rfl ?_;go_frame;refine opX 10 (.int .i64 0) rfl ?_;go_frame;refine rdy 12 rfl fun K hK=>?_;go_simp
   first | (refine hK.out _ _ (hpre.later (below_alloc _ _)) (fun hHd4=>?_);have hbxZ:BxAt (w6.alloc (.cells #[.int .i64 a.bas,.int .i64 a.stp,.int .i64 b.bas,.int .i64 b.stp] 85)) w6.heap.size a b:=heap_alloc_last w6 _) | (refine hK.out _ _ (hHd3.four hbx6 hA hWw _ _ _ _) (fun hHd4=>?_);have hbxZ:=BxAt.set hbx6 a b)
   clear hK K;try go_frame
   refine opX 13 (.int .i64 0) rfl ?_;go_frame;refine wpAnyH_done (by kernel_rfl) ?_ _;go_wp2_with fail
   go_meet
   case rel=>exact ⟨_,rfl,hHd4,hbxZ⟩
 case rest=>
  obtain ⟨A,rfl,hG9,hbx9⟩:=hcut;obtain ⟨k0,k1,k2,k3⟩:=hbx9.cells;have hcl:=hG9.g.cell;have hrow:=hG9.g.row;obtain ⟨a1,cap1,rfl⟩:=Rs.owns_slice hrow;have HG:Hid (GH w W wc BT BL n0 t (.slice a1 l.length cap1) l):=hG9;have hlen:=HL.out;have hn0:n0≤wc.heap.size:=HG.out.g.sz;clear hG9 hbx9 h1 h2 hG0 hWw he hv hc v0 v1;go_wp2_with (at_builtin;(refine wpList_append_own _ rfl _ _ 76 rfl n0 121 i0 (.agg #[.int .i64 0,.int .i64 0,.int .i64 0,.int .i64 0,.int .i64 0,.int .i64 0]) 6 48 Tryz.underlying76 hi hz0 hz1 hz2 rfl (by decide) (.slice a1 l.length cap1) l.length (isl l) rfl (hrow.alloc _) ⟨wc.heap.size,0,none⟩ 1 1 [.int .i64 (v:Int),.int .i64 (c:Int),.int .i64 a.bas,.int .i64 a.stp,.int .i64 b.bas,.int .i64 b.stp] rfl rfl (cell_row_new _ _ _) (by simp [Value.oneCell']) (by unfold maxLen;omega) (by omega) (by simp;omega) ?_);intro v' w3 hown' hg3 _;obtain ⟨a2,cap2,hv2⟩:=Rs.owns_slice hown';subst hv2;have HAP:Hid (w3.heap[BL]? =some (.cells #[.slice a1 l.length cap1] 76 (0,0))∧GL w (w3.setCell ⟨BL,0,none⟩ (.slice a2 (l.length+1) cap2)) BT BL n0 t (.slice a2 (l.length+1) cap2) (l++[⟨v,c,a,b⟩])):=HG.out.g.app (x:=⟨v,c,a,b⟩) hown' hg3;have HKP:Hid (KeptT wc (w3.setCell ⟨BL,0,none⟩ (.slice a2 (l.length+1) cap2))):=HG.out.g.appK (v':=.slice a2 (l.length+1) cap2) hg3;clear hown' hg3;have hcB:w3.cell? ⟨BL,0,none⟩=some (.slice a1 l.length cap1):=cell_of_row w3 BL 0 _ _ _ HAP.out.1;have hfB:w3.frozen? ⟨BL,0,none⟩=false:=Rt.row_frozen HAP.out.1 0)
  go_end0
  exact ⟨rfl,GiveP.of (by rw [HI.out];exact HAP.out.2) (HG.out.k.trans HKP.out)⟩
end Go.Proofs.YtoimkngkcliinaaGreatDoor
