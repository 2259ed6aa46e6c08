/- For every script of batches: the server that is opened again stands at the same tree, writes nothing, and is behind no message that left; messages are of rising epochs: ServerAgain, in its first form (the listed variables as the program's text lays them), and the card. -/
import Derived.Test.YtoimkngkcliinaaGreatDoorHd
import Derived.Test.YtoimkngkcliinaaGreatDoorCards
import Derived.Test.YtoimkngkcliinaaGreatDoorTie
import Derived.Test.YtoimkngkcliinaaGreatDoorJSvJ
import Derived.Test.YtoimkngkcliinaaGreatDoorOpenBts
import Derived.Test.YtoimkngkcliinaaGreatDoorJWiPf1
import Derived.WalkKit
import Derived.ProofKit
import Derived.OpenShut
import Derived.Deep.RegionHeld3
import Derived.Deep.DeepHandedRow
import Derived.Deep.DeepWitnessRowRef
import Derived.SizedLaws
namespace Go.Proofs.YtoimkngkcliinaaGreatDoor.serverAgain
open Go.ChangeShapes Go.WideShapes Go.ChangeAt Go.RowKit Go.Maps Go.Shelf Go.Great
open Rs (RdI Tb bytesI owns_later owns_slice)
open Rc
open Jr (recs np)
open Jr.Dk (Go1 Jn St Hs KeepT nu new_go writes_k)
open Bt (tb bys)
set_option linter.unusedVariables false
set_option linter.unusedSimpArgs false
theorem vs_of {W:World} (hL:laidMetH Tryz.prog Rows.serverAgainRow.laid W):Vs W:=by
 have h':laidMet Tryz.prog [("math/bits.deBruijn32tab",Rows.laid_math_bits_deBruijn32tab),("math/bits.deBruijn64tab",Rows.laid_math_bits_deBruijn64tab),("internal/strconv.uint64pow10",Rows.laid_internal_strconv_uint64pow10)] W∧handlesMet Tryz.prog [("errors.errorType",Rows.laid_errors_errorType)] W:=hL;exact ⟨tb_of h'.1,er_of h'.2 (.head _)⟩
/- Between two steps. -/
structure Inv (w0 w:World) (S p j:Nat) (s:St) (ps:List ByteArray) (t:Tr):Prop where
 sv:Sv w0 w S p j s ps.length (recs 1 ps).length false t false
 hs:Hs s ps ⟨#[]⟩ 0 0
 ld:Lead ps t
 lf:s.left=-1
 lg:(s.log.length:Int)≤8 * t.ep
 e0:0≤t.ep
 e2:t.ep≤200
theorem Inv.later {w0 w w':World} {S p j:Nat} {s:St} {ps:List ByteArray} {t:Tr} (h:Inv w0 w S p j s ps t) (hb:Below w.heap.size w w'):Inv w0 w' S p j s ps t:=⟨h.sv.later hb,h.hs,h.ld,h.lf,h.lg,h.e0,h.e2⟩
theorem Inv.other {w0 w w':World} {S p j S2 j2:Nat} {s:St} {ps:List ByteArray} {t:Tr} (h:Inv w0 w S p j s ps t) (k:Sv w0 w' S2 p j2 s ps.length (recs 1 ps).length false t false):Inv w0 w' S2 p j2 s ps t:=⟨k,h.hs,h.ld,h.lf,h.lg,h.e0,h.e2⟩
theorem step_inv {w0 w':World} {S p j:Nat} {s s':St} {ps':List ByteArray} {t:Tr} {L J:List Int} (h0:plE t L J=0) (hg:(s.log.length:Int)≤8 * t.ep) (h:Sv w0 w' S p j s' ps'.length (recs 1 ps').length false (pnT t L J) false) (hs:Hs s' ps' ⟨#[]⟩ 0 0) (hl:Lead ps' (pnT t L J)) (hf:s'.left=-1) (hn:s'.log.length=s.log.length+np (lg t (L,J)).size):Inv w0 w' S p j s' ps' (pnT t L J):=by
 obtain ⟨a,b,c⟩:=nx_ep h0;have:=(np_lg (lg_size h0)).2;exact ⟨h,hs,hl,hf,by rw [hn,a];omega,by omega,by omega⟩
theorem mo_cells {n:Nat} {w:World} {t:Tr} {L J:List Int} {ct:List Value} {X:Nat} (h:Wi.MO n w (stM t L J) ct) {W:World} (hX:W.heap[X]? =some (.cells ct.toArray 92 (0,0))):W.cell? ⟨X,0,none⟩=some (.int .i64 1)∧W.cell? ⟨X,1,none⟩=some (.int .i64 (t.ep+1)):=by
 obtain ⟨aL,cL,aJ,cJ,aI,cI,rfl,-⟩:=h;exact ⟨(cell_of_row W X 0 _ _ _ hX).trans rfl,(cell_of_row W X 1 _ _ _ hX).trans rfl⟩
set_option maxRecDepth 100000 in
set_option maxHeartbeats 4000000 in
theorem walk (a:Option Addr) (c:Nat) (l:List (List Int×List Int)) (w:World) (rd:RdB w a l) (hl:l.length * 48≤140737488351232) (hb:∀i,i<l.length→(l.getD i ([],[])).1.length * 8≤140737488351232∧(l.getD i ([],[])).2.length * 8≤140737488351232) (hV:Vs w):
  Calls Tryz.prog 5 #[.slice a l.length c] w fun e w'=>e=.returned (.bool true)∧Below w.heap.size w w':=by
 have hlv:=lives_any w hV;have HVW:Hid (Vs w):=hV;have HRD:Hid (RdB w a l):=rd;have HBB:Hid (∀i,i<l.length→(l.getD i ([],[])).1.length * 8≤140737488351232∧(l.getD i ([],[])).2.length * 8≤140737488351232):=hb;obtain ⟨n,hn⟩:∃n,l.length=n:=⟨_,rfl⟩;have HLN:Hid (l.length=n):=hn;rw [hn] at hl ⊢;clear hV rd hb hn;go_enter Tryz.func5,Tryz.ntmps5;go_wp2_with fail
 refine hlv.mono ?_;rintro r wa ⟨rfl,hba⟩;have HBA:Hid (Below w.heap.size w wa):=hba;have HV:Hid (Vs wa):=HVW.out.later hba;clear hlv hba HVW;go_wp2_with fail
 refine (new_go wa).mono ?_;rintro r w1 ⟨p,rfl,hg1⟩;have hop:=open_lead HV.out hg1 Hs.new Lead.nil (by decide) (by decide);clear hg1;go_wp2_with fail
 refine hop.mono ?_;rintro r w2 ⟨S,j,rfl,hS2,-⟩;have HI0:Hid (Inv wa w2 S p j nu [] stT):=⟨hS2,Hs.new,Lead.nil,rfl,by decide,by decide,by decide⟩;clear hop hS2;go_wp2_with fail
 go_loopw [4,6,33] (fun v4 v6 i wr=>∃(k S j:Nat) (s:St) (ps:List ByteArray) (t:Tr),k≤n∧i=.int .i64 (k:Int)∧v4=.pointer (some ⟨S,0,none⟩)∧v6=.int .i64 t.ep∧Inv wa wr S p j s ps t) (fun _ _ i _=>n - (intOf i).toNat)
 case atStart=>exact ⟨0,S,j,nu,[],stT,by omega,rfl,rfl,rfl,HI0.out⟩
 case round=>
  obtain ⟨k,S,j,s,ps,t,hk,rfl,rfl,rfl,hinv⟩:=hrel;have HI:Hid (Inv wa wr S p j s ps t):=hinv;clear hinv HI0;by_cases hkN:k<n
  ·have i1:(0:Int)≤(k:Int):=by omega
   have i2:(k:Int)<(n:Int):=by omega
   have hbw:Below w.heap.size w wr:=HBA.out.trans (HI.out.sv.go.below.mono HBA.out.size);obtain ⟨b0,o0,aL,cL,aJ,cJ,hal,hc0,hc1,rL,rJ⟩:=(HRD.out.later hbw) k (by rw [HLN.out];exact hkN);obtain ⟨hbL,hbJ⟩:=HBB.out k (by rw [HLN.out];exact hkN);obtain ⟨q,hq⟩:∃q,l.getD k ([],[])=q:=⟨_,rfl⟩;rw [hq] at hc0 hc1 rL rJ hbL hbJ;obtain ⟨L,J⟩:=q;dsimp only at hc0 hc1 rL rJ hbL hbJ;clear hq hbw;subst hal;have hbA:=below_alloc wr (.cells #[.slice aL L.length cL,.slice aJ J.length cJ] 41);have HI5:Hid (Inv wa (wr.alloc (.cells #[.slice aL L.length cL,.slice aJ J.length cJ] 41)) S p j s ps t):=HI.out.later hbA;have HBT:Hid (BtAt (wr.alloc (.cells #[.slice aL L.length cL,.slice aJ J.length cJ] 41)) wr.heap.size aL aJ L.length J.length cL cJ):=heap_alloc_last wr _;have HRL:Hid ((RdI (wr.alloc (.cells #[.slice aL L.length cL,.slice aJ J.length cJ] 41)) aL L∧RdI (wr.alloc (.cells #[.slice aL L.length cL,.slice aJ J.length cJ] 41)) aJ J)∧L.length<1152921504606846976∧J.length<1152921504606846976):=⟨⟨rL.later hbA,rJ.later hbA⟩,by omega,by omega⟩;clear HI rL rJ hbA hbL hbJ;go_upto_region 11 with (fail)
   clear hc0 hc1;generalize wr.alloc (.cells #[.slice aL L.length cL,.slice aJ J.length cJ] 41)=w5 at *;generalize wr.heap.size=C at *;have htr:=tree_any HI5.out.sv.sv;obtain ⟨ct,hct⟩:∃c,tcs t=c:=⟨_,rfl⟩;have HT:Hid (tcs t=ct):=hct;rw [hct] at htr;clear hct;go_wp2_with fail
   refine htr.mono ?_;rintro r w6 ⟨rfl,hb6⟩;obtain ⟨z1,W7,hW7,hT7,hB7⟩:=one_box w6 t ct HT.out;have hb67:=hb6.trans (hB7.mono hb6.size);have HI7:Hid (Inv wa W7 S p j s ps t):=HI5.out.later hb67;have HB7:Hid ((BtAt W7 C aL aJ L.length J.length cL cJ∧RdI W7 aL L∧RdI W7 aJ J)∧TrAt W7 w6.heap.size t):=⟨⟨HBT.out.later hb67,HRL.out.1.1.later hb67,HRL.out.1.2.later hb67⟩,hT7⟩;clear htr hb6 hB7 hb67 HI5 HBT hT7;go_upto_region 12 with (show wpList _ _ _ ({dst:=_,op:=Op.store 54 _ _,type:=_,pos:=_,after:=_,guard:=_}::_) _ _;refine stTc z1 HT.out rfl _ _ rfl rfl rfl ?_)
   try rw [hW7]
   clear z1 hW7;generalize w6.heap.size=D at *;obtain ⟨d0,d1⟩:=HB7.out.1.1.cells;have hlg:=HI7.out.lg;have he2:=HI7.out.e2;have hbt:=batch_free HV.out HI7.out.sv HI7.out.hs HI7.out.ld HI7.out.lf (by omega) aL aJ cL cJ L J HRL.out.2.1 HRL.out.2.2 HB7.out.1.2.1 HB7.out.1.2.2;unfold FreP at hbt;obtain ⟨NL,hNL⟩:∃x,L.length=x:=⟨_,rfl⟩;obtain ⟨NJ,hNJ⟩:∃x,J.length=x:=⟨_,rfl⟩;rw [hNL] at hbt d0;rw [hNJ] at hbt d1;try rw [hNL,hNJ]
   have HT7:Hid (TrAt W7 D t):=HB7.out.2;clear hNL hNJ HRL HB7 hlg he2;go_wp2_with fail
   refine hbt.mono ?_;rintro r w9 (⟨h1,rfl,hb9⟩ | ⟨h1,rfl,hk9,s',ps',hS',hs',hl',h0',hlog'⟩)
   ·obtain ⟨E,hE⟩:∃e,plE t L J=e:=⟨_,rfl⟩;rw [hE] at h1;try rw [hE]
    have hd:(E !=0)=true:=by simpa using h1
    have HI9:Hid (Inv wa w9 S p j s ps t):=HI7.out.later hb9;have HT9:Hid (TrAt w9 D t):=HT7.out.later hb9;clear hbt h1 hE hb9 d0 d1 HI7 HT7;go_upto_region 14 with (fail)
    have hS0:Below w9.heap.size w9 w9.drew:=drew_below _;refine wp_region_held_drew (S:=fun X=>Below w9.heap.size w9 X) (by kernel_rfl) hS0 (fun hHeld=>?_);refine opX 0 (.pointer (some ⟨S,0,none⟩)) rfl ?_;go_frame;refine opY 2 (.agg ct) rfl (fun w hSw=>ld_exec (HT.out ▸ (HT9.out.later hSw).whole) rfl rfl) ?_;go_frame;refine rdy 1 rfl fun K hK=>?_;go_simp
    have h9:=tree_any (HI9.out.later hHeld).sv.sv;rw [HT.out] at h9;refine h9.mono ?_;rintro r w10 ⟨rfl,hb10⟩;go_wp2_with fail
    refine hK.out _ _ (hHeld.trans (hb10.mono hHeld.size)) (fun hHeld2=>?_);clear h9;clear hK K;try go_frame
    refine opY 3 (.bool false) rfl (fun w hSw=>neTr_exec HT.out rfl rfl rfl) ?_;go_frame;refine opX 4 (.bool false) rfl ?_;go_frame;refine opX 5 (.string ⟨#[]⟩) rfl ?_;go_frame;refine opY 6 (.bool false) rfl (fun w hSw=>by clear hSw;go_simp) ?_;go_frame;refine opX 7 (.bool false) rfl ?_;go_frame;refine wpAnyH_done (by kernel_rfl) ?_ _;have HI10:Hid (Inv wa w10 S p j s ps t):=HI9.out.later (hS0.trans (hb10.mono hS0.size));clear hS0 hb10 hHeld hHeld2 HI9 HT9;go_wp2_with fail
    go_roundw
    case rel=>exact ⟨k+1,S,j,s,ps,t,by omega,by go_num,rfl,rfl,HI10.out⟩
    case measure=>simp [intOf];omega
   ·have h1':=h1;rw [h1'] at hbt;have hinv':=step_inv h1 HI7.out.lg hS' hs' hl' h0' hlog';obtain ⟨nx1,nx2,nx3⟩:=nx_ep h1;have hdc:=Wi.rDec_1 (stM t L J) w9 (stM_good h1) rfl (by have:=Wi.en_small (stM t L J);omega);rw [show Wi.enS (stM t L J)=msB t L J from rfl] at hdc;have HMO:Hid (∀{n:Nat} {w W:World} {ct:List Value} {X:Nat},Wi.MO n w (stM t L J) ct→W.heap[X]? =some (.cells ct.toArray 92 (0,0))→W.cell? ⟨X,0,none⟩=some (.int .i64 1)∧W.cell? ⟨X,1,none⟩=some (.int .i64 (t.ep+1))):=fun h k=>mo_cells h k
    obtain ⟨mb,hmb⟩:∃m,msB t L J=m:=⟨_,rfl⟩;obtain ⟨mt,hmt⟩:∃m,stM t L J=m:=⟨_,rfl⟩;obtain ⟨m,hm⟩:∃m,pnT t L J=m:=⟨_,rfl⟩;rw [hmb,hmt] at hdc;try rw [hmb]
    rw [hmt] at HMO;rw [hm] at hinv' nx1;have HI9:Hid (Inv wa w9 S p j s' ps' m):=hinv';have HNX:Hid (m.ep=t.ep+1):=nx1;clear hbt h1 h1' hk9 hS' hs' hl' h0' hlog' hinv' nx1 nx2 nx3 hmb hmt hm d0 d1 HI7 HT7;go_wp2_with fail
    refine hdc.mono ?_;rintro r wb ⟨dt,rfl,hmo,hbb⟩;have HMV:Hid (Wi.MV wb mt dt):=hmo.mv;have hbA:=below_alloc wb (.cells dt.toArray 92);have hX:(wb.alloc (.cells dt.toArray 92)).heap[wb.heap.size]? =some (.cells dt.toArray 92 (0,0)):=heap_alloc_last wb _;obtain ⟨x0,x1⟩:=HMO.out hmo hX;have HIb:Hid (Inv wa (wb.alloc (.cells dt.toArray 92)) S p j s' ps' m):=HI9.out.later (hbb.trans (hbA.mono hbb.size));clear hdc hmo hbb hbA hX HMO HI9;go_upto_region 17 with (show wpList _ _ _ ({dst:=_,op:=Op.store 92 _ _,type:=_,pos:=_,after:=_,guard:=_}::_) _ _;refine Wi.stN Wi.szMg rfl dt HMV.out.len HMV.out.one rfl _ _ rfl rfl rfl ?_)
    have HXX:Hid ((wb.alloc (.cells dt.toArray 92)).cell? ⟨wb.heap.size,0,none⟩=some (.int .i64 1)∧(wb.alloc (.cells dt.toArray 92)).cell? ⟨wb.heap.size,1,none⟩=some (.int .i64 (t.ep+1))):=⟨x0,x1⟩;clear HMV x0 x1;generalize wb.alloc (.cells dt.toArray 92)=wc at *;generalize wb.heap.size=X at *;obtain ⟨e0,he0⟩:∃e,t.ep=e:=⟨_,rfl⟩;obtain ⟨e1,he1⟩:∃e,e0+1=e:=⟨_,rfl⟩;rw [he0,he1] at HXX HNX;try rw [he0]
    have HE1:Hid (e0+1=e1):=he1;have hle:decide (e1≤e0)=false:=by simp;omega
    have hee:(e1 !=e1)=false:=by simp
    obtain ⟨cm,hcm⟩:∃c,tcs m=c:=⟨_,rfl⟩;have HCM:Hid (tcs m=cm):=hcm;clear he0 he1 hcm;have hS0:Below wc.heap.size wc wc.drew:=drew_below _;refine wp_region_held_drew (S:=fun X=>Below wc.heap.size wc X) (by kernel_rfl) hS0 (fun hHeld=>?_);refine opX 0 (.int .i64 0) rfl ?_;go_frame;refine opX 1 (.bool false) rfl ?_;go_frame;refine opX 2 (.bool false) rfl ?_;go_frame;refine opX 3 (.pointer (some ⟨X,0,none⟩)) rfl ?_;go_frame;refine opY 4 (.int .i64 1) rfl (fun w hSw=>by have c1:=Rs.cell_later hSw HXX.out.1;clear hSw;go_simp) ?_;go_frame;refine opX 5 (.bool false) rfl ?_;go_frame;refine opX 6 (.bool false) rfl ?_;go_frame;refine opX 7 (.bool false) rfl ?_;go_frame;refine opX 8 (.pointer (some ⟨X,1,none⟩)) rfl ?_;go_frame;refine opX 9 (.pointer (some ⟨X,1,none⟩)) rfl ?_;go_frame;refine opY 10 (.int .i64 e1) rfl (fun w hSw=>by have c1:=Rs.cell_later hSw HXX.out.2;clear hSw;go_simp) ?_;go_frame;refine opX 11 (.int .i64 e0) rfl ?_;go_frame;refine opY 12 (.bool false) rfl (fun w hSw=>by clear hSw;go_simp) ?_;go_frame;refine opX 13 (.bool false) rfl ?_;go_frame;refine opX 14 (.bool false) rfl ?_;go_frame;refine opX 15 (.pointer (some ⟨S,0,none⟩)) rfl ?_;go_frame;refine opX 18 (.pointer (some ⟨X,1,none⟩)) rfl ?_;go_frame;refine opX 19 (.pointer (some ⟨X,1,none⟩)) rfl ?_;go_frame;refine opY 20 (.int .i64 e1) rfl (fun w hSw=>by have c1:=Rs.cell_later hSw HXX.out.2;clear hSw;go_simp) ?_;go_frame;refine rdy 16 rfl fun K hK=>?_;go_simp
    have h9:=tree_any (HIb.out.later hHeld).sv.sv;rw [HCM.out] at h9;refine h9.mono ?_;rintro r wd ⟨rfl,hbd⟩;go_wp2_with fail
    refine hK.out _ _ (hHeld.trans (hbd.mono hHeld.size)) (fun hHeld2=>?_);clear h9;clear hK K;try go_frame
    refine opY 17 (.int .i64 e1) rfl (fun w hSw=>HNX.out ▸ ep_exec HCM.out rfl rfl) ?_;go_frame;refine opY 21 (.bool false) rfl (fun w hSw=>by clear hSw;go_simp) ?_;go_frame;refine opX 22 (.bool false) rfl ?_;go_frame;refine wpAnyH_done (by kernel_rfl) ?_ _;have hbcd:=hS0.trans (hbd.mono hS0.size);have HId:Hid (Inv wa wd S p j s' ps' m):=HIb.out.later hbcd;have x1:=Rs.cell_later hbcd HXX.out.2;obtain ⟨SL,hSL⟩:∃n,s'.log.length=n:=⟨_,rfl⟩;have HSL:Hid (s'.log.length=SL∧SL≤1600):=⟨hSL,by have:=HId.out.lg;have:=HId.out.e2;omega⟩;have hwr:=writes_k HId.out.sv.go (by have:=HSL.out;omega);rw [hSL] at hwr;clear hS0 hbd hbcd hHeld hHeld2 HIb HXX hSL;go_wp2_with fail
    refine hwr.mono ?_;rintro r we ⟨⟨aw,cw,rfl⟩,hbe⟩;have HIe:Hid (Inv wa we S p j s' ps' m):=HId.out.later hbe;have hop:=open_lead HV.out HIe.out.sv.go HIe.out.hs HIe.out.ld (by rw [HIe.out.lf];decide) (by have:=HSL.out;omega);clear hwr hbe x1 HId;go_wp2_with fail
    refine hop.mono ?_;rintro r wf ⟨S2,j2,rfl,hSf,hkf,hjf⟩;have HIf:Hid (Inv wa wf S2 p j2 s' ps' m∧Inv wa wf S p j s' ps' m):=⟨HIe.out.other hSf,HIe.out.other ⟨hSf.go,hjf _ _ _ _ _ HIe.out.sv.jn,hkf _ _ _ _ HIe.out.sv.sv (by decide) (by decide) (by decide),HIe.out.sv.jN,HIe.out.sv.sN⟩⟩;have h1:=tree_any HIf.out.1.sv.sv;rw [HCM.out] at h1;clear hop hSf hkf hjf HIe;go_wp2_with fail
    refine h1.mono ?_;rintro r wg ⟨rfl,hbg⟩;have HIg:Hid (Inv wa wg S2 p j2 s' ps' m∧Inv wa wg S p j s' ps' m):=⟨HIf.out.1.later hbg,HIf.out.2.later hbg⟩;have h2:=tree_any HIg.out.2.sv.sv;rw [HCM.out] at h2;clear h1 hbg HIf;go_wp2_with fail
    refine h2.mono ?_;rintro r wh ⟨rfl,hbh⟩;have HIh:Hid (Inv wa wh S2 p j2 s' ps' m∧Inv wa wh S p j s' ps' m):=⟨HIg.out.1.later hbh,HIg.out.2.later hbh⟩;have h3:=writes_k HIh.out.1.sv.go (by have:=HSL.out;omega);rw [HSL.out.1] at h3;clear h2 hbh HIg;go_wp2_with (show wpList _ _ _ ({dst:=_,op:=Op.binOp .neq 54 _ _ _,type:=_,pos:=_,after:=_,guard:=_}::_) _ _;refine rd_guard rfl (neTr_exec HCM.out rfl rfl rfl) ?_)
    refine h3.mono ?_;rintro r wi ⟨⟨aw2,cw2,rfl⟩,hbi⟩;have HIi:Hid (Inv wa wi S2 p j2 s' ps' m∧Inv wa wi S p j s' ps' m):=⟨HIh.out.1.later hbi,HIh.out.2.later hbi⟩;have h4:=tree_any HIi.out.1.sv.sv;rw [HCM.out] at h4;have hsl:((SL:Int)!=(SL:Int))=false:=by simp
    clear h3 hbi HIh;go_wp2_with fail
    refine h4.mono ?_;rintro r wj ⟨rfl,hbj⟩;have HIj:Hid (Inv wa wj S2 p j2 s' ps' m∧Inv wa wj S p j s' ps' m):=⟨HIi.out.1.later hbj,HIi.out.2.later hbj⟩;clear h4 hbj HIi;have hep:m.ep=e1:=HNX.out;have hlt:decide (e1<e1)=false:=by simp
    go_upto_region 24 with (show wpList _ _ _ ({dst:=_,op:=Op.field 54 _ _,type:=_,pos:=_,after:=_,guard:=_}::_) _ _;refine rd_guard rfl (ep_exec HCM.out rfl rfl) ?_)
    clear hep hlt hsl
    go_upto_if 123 with (fail)
    generalize (e1.tmod 2==0)=bb;generalize e1.tmod 2=zz
    cases bb with
    | true=>
     go_wp2_with fail
     go_roundw
     case rel=>exact ⟨k+1,S2,j2,s',ps',m,by omega,by go_num,rfl,by rw [HNX.out],HIj.out.1⟩
     case measure=>simp [intOf];omega
    | false=>
     go_wp2_with fail
     go_roundw
     case rel=>exact ⟨k+1,S,j,s',ps',m,by omega,by go_num,rfl,by rw [HNX.out],HIj.out.2⟩
     case measure=>simp [intOf];omega
  ·obtain rfl:k=n:=by omega
   have hdk:decide ((k:Int)<(k:Int))=false:=by simp
   have hdn:=down_any HI.out.sv.go HI.out.sv.sv;rw [show (false||decide (s.left=0))=false by rw [HI.out.lf];rfl] at hdn;have HBF:Hid (Below w.heap.size w wr):=HBA.out.trans (HI.out.sv.go.below.mono HBA.out.size);go_wp2_with fail
   refine hdn.mono ?_;rintro r wr ⟨rfl,rfl⟩;clear hdn HI;go_wp2_with fail
   go_ret;exact ⟨rfl,HBF.out⟩
theorem own:ownKnob Tryz.prog.godebug=none:=by kernel_rfl
theorem laidOut:laidOutB Tryz.prog=true:=by kernel_rfl
set_option maxRecDepth 20000 in
theorem contract (H:Type) (enc:TypeId×Value→H) (W:World) (base:Nat) (args:Array Value) (ds gs:List (DataW H)) (before:List MemPlace)
  (hval:∀(j:Nat) t v,Tryz.f5.params[j]? =some t→args[j]? =some v→Value.okWide Tryz.prog W .any base t v)
  (hW:DataW.Whole enc Tryz.prog Tryz.f5.params.toList Rows.serverAgainSpec.vars false W args.toList ds gs before)
  (hsz:(DataW.weightsEach Tryz.prog (Tryz.f5.params.toList++Rows.serverAgainSpec.plain.varTypes Tryz.prog) (ds++gs)).all (· ≤reachBytes)=true)
  (hL:laidMetH Tryz.prog Rows.serverAgainRow.laid W):
  Calls Tryz.prog 5 args W fun e W'=>∃v,e=.returned v∧Rows.serverAgainSpec.post enc Tryz.prog Tryz.f5 false true false false W args v W':=by
 have hv:=vs_of hL;have hW':=hW;obtain ⟨p,q,hA0,hV,rfl,hfz,hnd⟩:=hW;have hA:DataW.TrodAll enc Tryz.prog W 0 (fun _=>true) true Tryz.f5.params.toList args.toList ds p:=hA0;rw [Tryz.params5] at hA hval hsz;obtain ⟨v0,vs0,d0,ds0,p0,q0,hargs,rfl,rfl,h0,r0⟩:=trodAll_cons hA;obtain ⟨rfl,rfl,rfl⟩:=trodAll_nil r0;obtain rfl:args=#[v0]:=by cases args;simp_all
 obtain ⟨rfl,rfl⟩:=trodVars_none hV;have k0:=h0;have lt0:∀x∈p0,x.block<W.heap.size:=by obtain ⟨m,hm⟩:=k0;exact DataW.trod_lt m _ _ _ hm
 obtain ⟨a0,c0,l0,rfl,rd0,hl0,hb0⟩:=bts_of1 (fun es sp e=>by subst e;exact ⟨by have h:=sized_slice hsz (j:=0) (t:=103) (e:=41) rfl rfl Tryz.underlying103;rw [bytesBt] at h;exact h,fun parts hm=>sized_elems hsz (j:=0) (t:=103) (e:=41) rfl rfl Tryz.underlying103 Tryz.underlying41 hm⟩) (okWide_slice Tryz.underlying103 (hval 0 103 v0 rfl rfl)) h0;clear hA0;refine (walk a0 c0 l0 W rd0 hl0 hb0 hv).mono fun e W' ⟨he,bel⟩=>?_
 subst he;exact ⟨_,rfl,_,_,_,[],_,[],hW',trodAll_mk1 (shut_bool Tryz.underlying4 _),(trodAll_cons_mk (Below.trod laidOut (by kernel_rfl) (of_decide_eq_true (by kernel_rfl)) k0 bel lt0) trodAll_mk0),rfl,bel.frame _,fun h=>by cases h⟩
set_option maxRecDepth 100000 in
theorem laid_met (os:Os):laidMetH Tryz.prog Rows.serverAgainRow.laid ((laidWorld os).forCall (fun _ _=>0) ⟨#[],#[.slice none 0 0],[]⟩).memory:=
 laidMetH_of_parts (laidMet_of_run' 8 (by kernel_rfl) (by kernel_rfl)) (by kernel_rfl)
set_option maxRecDepth 100000 in
theorem reads (os:Os) {H:Type} (enc:TypeId×Value→H):∃places,DataW.whole enc Tryz.prog ((laidWorld os).forCall (fun _ _=>0) ⟨#[],#[.slice none 0 0],[]⟩).memory Tryz.f5.params.toList Rows.serverAgainSpec.vars false (#[.slice none 0 0]:Array Value).toList 8=some ([.nil],[],places):=
 ⟨[],by kernel_rfl⟩
set_option maxRecDepth 100000 in
theorem lifted (os:Os) (started:os.Started) (H:Type) (enc:TypeId×Value→H) (F:Stop.Interp):
  ReturnsInHanded {} Tryz.checked os 5 .any ((OpenSpec.ofChange Rows.serverAgainSpec).preRow enc Tryz.prog Tryz.f5 Rows.serverAgainRow.domain false Rows.serverAgainRow.laid) (((OpenSpec.ofChange Rows.serverAgainSpec).at F).post enc Tryz.prog Tryz.f5 false true false false):=by
 obtain ⟨places,hx⟩:=reads os enc
 refine returnsInHanded_of_row (C:=Tryz.checked) (s:=(OpenSpec.ofChange Rows.serverAgainSpec)) own started (by kernel_rfl) Tryz.func5
  (witness_row_at (enc:=enc) (C:=Tryz.checked) false (laidWorld os) #[.slice none 0 0] rfl (by kernel_rfl) (by kernel_rfl) (by kernel_rfl)
   (OpenSpec.preRow_of_cond 8 hx (by kernel_rfl) (fun k hk=>by cases hk) (by kernel_rfl) (laid_met os))) ?_
 intro W base args ds gs before hval hW hc1 hc2 hsz hL hsh _;exact contract H enc W base args ds gs before hval hW hsz hL
set_option maxHeartbeats 8000000 in
theorem closed:joinedFacts Tryz.pinned.checked.prog 5 Tryz.f5 (OpenSpec.ofChange Rows.serverAgainSpec).bare Rows.serverAgainRow=true:=by
 unfold joinedFacts;simp only [Bool.and_eq_true]
 repeat' apply And.intro
 all_goals as_aux_lemma=>kernel_rfl
theorem said:Rows.ServerAgainSaid:=
 OpenClaim.holds_of_cond 5 Tryz.f5 rfl rfl rfl rfl rfl rfl rfl ⟨rfl,rfl,rfl,rfl,rfl⟩ rfl rfl rfl rfl rfl (by kernel_rfl) Tryz.func5 closed
  (of_decide_eq_true (by kernel_rfl)) (by unfold Func.isWrapper;first | (rw [if_pos (by decide+kernel)];kernel_rfl) | (rw [if_neg (by decide+kernel)];exact ⟨rfl,rfl⟩))
  (fun os started H enc _ F=>by rw [OpenClaim.pre_eq_preRow];exact lifted os started H enc F)
theorem plain (f:FuncId) (fn:Func) (hf:Tryz.pinned.checked.prog.funcNamed "coterie/coterielaw18.ServerAgain" =some f) (hfn:Tryz.pinned.checked.prog.funcs[f]? =some fn):
  true=Tryz.pinned.checked.prog.looks []∧∀(j:Nat) t,fn.params[j]? =some t→Tryz.pinned.checked.prog.wantsStandIn t=false:=by
 obtain rfl:f=5:=Option.some.inj ((show Tryz.prog.funcNamed "coterie/coterielaw18.ServerAgain" =some 5 by kernel_rfl).symm.trans hf) |>.symm
 obtain rfl:fn=Tryz.f5:=(Option.some.inj (Tryz.func5.symm.trans hfn)).symm;refine ⟨by kernel_rfl,fun j t ht=>?_⟩;rw [Tryz.params5] at ht;have h103:Tryz.prog.wantsStandIn 103=false:=by kernel_rfl
 have hm:=Array.mem_of_getElem? ht;simp at hm;subst hm;exact h103
end Go.Proofs.YtoimkngkcliinaaGreatDoor.serverAgain
namespace Go.Proofs.YtoimkngkcliinaaGreatDoor
theorem serverAgain_holds:Rows.ServerAgainCardSaid:=
 Claim7.holds_tied_plain_at .later [] _ _ _ _ serverAgain.said (fun _ h=>by cases h) (by kernel_rfl) (fun _ h=>by cases h) serverAgain_row_tie rfl ⟨rfl,rfl⟩ (by kernel_rfl) rfl serverAgain.plain (by kernel_rfl)
#print axioms serverAgain_holds
end Go.Proofs.YtoimkngkcliinaaGreatDoor
