/- WiPb, WiPc, WiPf, WiSa, WiSb, WiSc, WiSe, joined. -/
import Derived.Test.YtoimkngkcliinaaGreatDoorHd
import Derived.Test.YtoimkngkcliinaaGreatDoorJWiH
import Derived.Test.YtoimkngkcliinaaGreatDoorJBitRefD
namespace Go.Proofs.YtoimkngkcliinaaGreatDoor.Wi
open Go.RowKit Go.Maps
open Bt (Kept tb bys RdF pkS pkE okF)
set_option linter.unusedVariables false
set_option linter.unusedSimpArgs false
theorem flat_nx {α β:Type} (f:α→List β) {l:List α} {k:Nat} (h:k<l.length):(l.take (k+1)).flatMap f=(l.take k).flatMap f++f l[k]:=by
 rw [List.take_succ_eq_append_getElem h,List.flatMap_append];simp
theorem flat_ln {α β:Type} (f:α→List β) (n:Nat) (h:∀x,(f x).length=n):∀l:List α,(l.flatMap f).length=l.length * n
 | []=>by simp
 | x::l=>by rw [List.flatMap_cons,List.length_append,h,flat_ln f n h l,List.length_cons];rw [Nat.succ_mul];omega
set_option maxRecDepth 100000 in
set_option maxHeartbeats 1000000 in
theorem rPutL_any (L:List (Int×Int)) (aL:Option Addr) (cL:Nat) (hg:∀x∈L,nn x.1∧nn x.2) (hn:L.length≤64) {w0 w:World} {v:Value} {l:List (Nat×Int)} (rd:RdV stl 2 w0 aL L) (hG:GR w0 w (.slice none 0 0) v l) (hl:l.length≤10000):
  Calls Tryz.prog 60 #[v,.slice aL L.length cL] w fun e w'=>∃v',e=.returned v'∧GR w0 w' (.slice none 0 0) v' (l++fL L):=by
 obtain ⟨n,hnn⟩:∃n,L.length=n:=⟨_,rfl⟩;have HN:Hid (L.length=n):=hnn;have HF:Hid (l++fL L=l++[(n,7)]++L.flatMap fS):=by unfold Hid fL;rw [hnn];simp
 rw [HF.out];rw [hnn] at hn ⊢;clear hnn;have hq:=rPut_any (n:Int) 7 (by omega) (by omega) hG.row (by omega);rw [Int.toNat_natCast] at hq;have HG0:Hid (GR w0 w (.slice none 0 0) v l):=hG;clear hG;go_enter Tryz.func60,Tryz.ntmps60;go_wp2_with fail
 refine hq.mono ?_;rintro e w2 ⟨v2,rfl,g2⟩;have HG2:Hid (GR w0 w2 (.slice none 0 0) v2 (l++[(n,7)])):=HG0.out.trans g2;clear hq g2 HG0;go_wp2_with fail
 go_loopw [0,13] (fun x i wr=>∃k:Nat,k≤n∧i=.int .i64 (k:Int)∧GR w0 wr (.slice none 0 0) x (l++[(n,7)]++(L.take k).flatMap fS)) (fun _ i _=>n - (intOf i).toNat)
 case atStart=>exact ⟨0,by omega,rfl,by simpa using HG2.out⟩
 case round=>
  obtain ⟨k,hk,rfl,hG⟩:=hrel;have HG:Hid (GR w0 wr (.slice none 0 0) u0 (l++[(n,7)]++(L.take k).flatMap fS)):=hG;clear hG HG2;by_cases hkn:k<n
  ·have hkl:k<L.length:=by rw [HN.out];exact hkn
   obtain ⟨b,o,rfl,hr⟩:=rd k hkl;have hr:=ra_later hr HG.out.below;unfold stl at hr;have i1:(0:Int)≤(k:Int):=by omega
   have i2:(k:Int)<(n:Int):=by omega
   have HNX:Hid ((L.take (k+1)).flatMap fS=(L.take k).flatMap fS++fS L[k]):=flat_nx fS hkl
   have HLN:Hid ((l++[(n,7)]++(L.take k).flatMap fS).length≤11000):=by
    unfold Hid;rw [List.length_append,List.length_append,flat_ln fS 2 (fun _=>rfl),List.length_take];simp;omega
   have HGK:Hid (nn L[k].1∧nn L[k].2):=hg _ (List.getElem_mem hkl);generalize L[k]=p at *;obtain ⟨pw,pl⟩:=p;dsimp only at *;clear hkl;obtain ⟨lk,hlk⟩:∃x,l++[(n,7)]++(L.take k).flatMap fS=x:=⟨_,rfl⟩;have HLK:Hid (l++[(n,7)]++(L.take k).flatMap fS=lk):=hlk;rw [hlk] at HG HLN;clear hlk;go_upto_region 5 with (refine ldM hr Tryz.underlying165 rfl szSeat _ rfl rfl rfl ?_)
   have hE:=heap_alloc_last wr (.cells #[.int .i64 pw,.int .i64 pl] 165);have hB1:=below_alloc wr (.cells #[.int .i64 pw,.int .i64 pl] 165);have HR1:Hid _:=owns_later HG.out.row hB1;have HEl:Hid (wr.heap.size<(wr.alloc (.cells #[.int .i64 pw,.int .i64 pl] 165)).heap.size∧u0.ownBlock≠some wr.heap.size):=⟨by simp,own_ne HG.out.row⟩;have HB1:Hid _:=hB1;have HGa:Hid (GR w0 (wr.alloc (.cells #[.int .i64 pw,.int .i64 pl] 165)) (.slice none 0 0) u0 lk):=HG.out.later hB1;clear hB1 hr;generalize wr.alloc (.cells #[.int .i64 pw,.int .i64 pl] 165)=w1 at *;obtain ⟨E,hEe⟩:∃E,wr.heap.size=E:=⟨_,rfl⟩;rw [hEe] at hE HEl ⊢;clear hEe;have hE:w1.drew.heap[E]? =some (.cells #[.int .i64 pw,.int .i64 pl] 165 (0,0)):=hE;have hq0:=rPut_any pw 8 HGK.out.1.1 HGK.out.1.2 (w:=w1.drew) (v:=u0) (l:=lk) HR1.out (by have:=HLN.out;omega);refine wp_region_held_drew (S:=fun W=>W.cell? ⟨E,0,none⟩=some (.int .i64 pw)∧W.cell? ⟨E,1,none⟩=some (.int .i64 pl)) (by kernel_rfl) (two_cells hE) (fun hHeld=>?_);refine opX 0 (u0) rfl ?_;go_frame;refine opX 1 (.pointer (some ⟨E,0,none⟩)) rfl ?_;go_frame;refine opX 2 (.int .i64 pw) rfl ?_;go_frame;refine opX 4 (.pointer (some ⟨E,1,none⟩)) rfl ?_;go_frame;refine opX 5 (.int .i64 pl) rfl ?_;go_frame;refine rdy 3 rfl fun K hK=>?_;go_simp
   refine hq0.mono ?_;rintro e x1 ⟨v1,rfl,g2⟩;have HE1:Hid (x1.heap[E]? =some (.cells #[.int .i64 pw,.int .i64 pl] 165 (0,0))):=(g2.block (HEl.out.1) (HEl.out.2)).trans hE;have HN1:Hid (v1.ownBlock≠some E∧E<x1.heap.size):=⟨g2.ne (HEl.out.1) (HEl.out.2),Nat.lt_of_lt_of_le (HEl.out.1) g2.kp.size⟩;have HG1:Hid (GR w1.drew x1 u0 v1 (lk++[(pw.toNat,8)])):=g2;clear hq0 g2;have hq1:=rPut_any pl 6 HGK.out.2.1 HGK.out.2.2 (w:=x1) (v:=v1) HG1.out.row (by have:=HLN.out;simp;omega);go_wp2_with fail
   refine hK.out _ _ (two_cells HE1.out) (fun hHeld2=>?_);clear hHeld;clear hK K;try go_frame
   refine rdy 6 rfl fun K hK=>?_;go_simp
   refine hq1.mono ?_;rintro e x2 ⟨v2,rfl,g2⟩;have HE2:Hid (x2.heap[E]? =some (.cells #[.int .i64 pw,.int .i64 pl] 165 (0,0))):=(g2.block (HN1.out.2) (HN1.out.1)).trans HE1.out;have HN2:Hid (v2.ownBlock≠some E∧E<x2.heap.size):=⟨g2.ne (HN1.out.2) (HN1.out.1),Nat.lt_of_lt_of_le (HN1.out.2) g2.kp.size⟩;have HG2:Hid (GR w1.drew x2 u0 v2 (lk++[(pw.toNat,8)]++[(pl.toNat,6)])):=HG1.out.trans g2;clear hq1 g2;go_wp2_with fail
   refine hK.out _ _ (two_cells HE2.out) (fun hHeld3=>?_);clear hHeld2;clear hK K;try go_frame
   refine opX 7 (v2) rfl ?_;go_frame;refine wpAnyH_done (by kernel_rfl) ?_ _;go_wp2_with fail
   go_roundw
   case rel=>
    refine ⟨k+1,by omega,by go_num,?_⟩;rw [HNX.out,←List.append_assoc,HLK.out];have e:lk++fS (pw,pl)=lk++[(pw.toNat,8)]++[(pl.toNat,6)]:=by simp [fS]
    rw [e];exact (HGa.out.later (drew_below w1)).trans HG2.out
   case measure=>simp [intOf];omega
  ·have hkn':decide ((k:Int)<(n:Int))=false:=by simp;omega
   have e:L.take k=L:=List.take_of_length_le (by rw [HN.out];omega);rw [e] at HG;go_wp2_with fail
   go_ret;exact ⟨_,rfl,HG.out⟩
section
variable {w0 w:World} {v:Value} {l:List (Nat×Int)}
theorem putG (x q:Int) (h:nn x) (hG:GR w0 w (.slice none 0 0) v l) (hl:l.length≤20000):Calls Tryz.prog 59 #[v,.int .i64 x,.int .i64 q] w fun e w'=>∃v',e=.returned v'∧GR w0 w' (.slice none 0 0) v' (l++[(x.toNat,q)]):=by
 refine (rPut_any x q h.1 h.2 hG.row hl).mono ?_;rintro e w' ⟨v',he,g⟩;exact ⟨v',he,hG.trans g⟩
end
theorem MgAt.cell {w:World} {B:Nat} {m:Msg} {vL vJ vI:Value} (h:MgAt w B m vL vJ vI) (o:Nat) (v:Value) (e:(mgl m vL vJ vI)[o]? =some v):w.cell? ⟨B,o,none⟩=some v:=(cell_of_row w B o _ _ _ h).trans (by simpa using e)
theorem nn_gd {k:Int×Int} (h:gK k=true):nn k.1∧nn k.2:=by
 have h:=h;unfold gK Rt.gd at h;simp only [Bool.and_eq_true,decide_eq_true_eq] at h;unfold nn;omega
theorem nn_W {x:Int} (h:gW x=true):nn x:=by
 unfold gW at h;simp only [Bool.and_eq_true,decide_eq_true_eq] at h;unfold nn;omega
theorem nn_E {x:Int} (h:gE x=true):nn x:=by
 unfold gE at h;simp only [Bool.and_eq_true,decide_eq_true_eq] at h;unfold nn;omega
theorem nn_S {s:Int×Int} (h:gS s=true):nn s.1∧nn s.2:=by
 unfold gS at h;simp only [Bool.and_eq_true,decide_eq_true_eq] at h;refine ⟨nn_W h.1,?_⟩;unfold nn;omega
theorem okF_lt {x:Nat×Int} (h:okF x=true):x.1<18446744073709551616:=by
 unfold okF Bt.gw at h;simp only [Bool.and_eq_true,decide_eq_true_eq] at h;have h2:2^x.2.toNat≤2^64:=Nat.pow_le_pow_right (by decide) (by omega);have h3:(2:Nat)^64=18446744073709551616:=by decide
 omega
theorem rPack_of {w0 w:World} {a:Option Addr} {c:Nat} {m:Msg} (hg:gM m=true) (hG:GR w0 w (.slice none 0 0) (.slice a (fM m).length c) (fM m)):Calls Tryz.prog 63 #[.slice a (fM m).length c] w fun e w'=>e=.returned (.tuple #[.string (enS m),.int .i64 0])∧Below w.heap.size w w':=by
 have h:=Bt.rPack_any a c (fM m).length (fM m) rfl w (by have:=fM_len hg;omega) (rdF_of hG.row (fun x hx=>by
  have:=all_M hg x hx
  exact okF_lt this))
 rw [(en_pk hg).1,(en_pk hg).2] at h;exact h
theorem nn_I {i:(Int×Int)×((Int×Int)×(Int×Int))} (h:gI i=true):(nn i.1.1∧nn i.1.2)∧(nn i.2.1.1∧nn i.2.1.2)∧(nn i.2.2.1∧nn i.2.2.2):=by
 obtain ⟨⟨a,b⟩,c,d⟩:=gI_fit h;have a2:i.1.1<32:=a.2;have b2:i.1.2<128:=b.2;exact ⟨⟨⟨a.1,by omega⟩,⟨b.1,by omega⟩⟩,nn_gd c,nn_gd d⟩
theorem putLG {L:List (Int×Int)} {aL:Option Addr} {cL:Nat} {vL:Value} (hv:Value.slice aL L.length cL=vL) (hg:∀x∈L,nn x.1∧nn x.2) (hn:L.length≤64) {w0 w:World} {v:Value} {l:List (Nat×Int)} (rd:RdV stl 2 w0 aL L) (hG:GR w0 w (.slice none 0 0) v l) (hl:l.length≤10000):
  Calls Tryz.prog 60 #[v,vL] w fun e w'=>∃v',e=.returned v'∧GR w0 w' (.slice none 0 0) v' (l++fL L):=by
 subst hv;exact rPutL_any L aL cL hg hn rd hG hl
open Bt (Kept Rm tb bys bv)
structure SC (B:Nat) (w:World) (sc g c:Nat) (T:List Bool) (v:Value):Prop where
 rm:Rm B w g c T v
 hs:w.heap[sc]? =some (.cells #[.pointer (some ⟨g,0,none⟩)] 170 (0,0))
section
variable {B:Nat} {w w' W:World} {sc g c c' D:Nat} {T:List Bool} {v:Value} {O:Obj}
theorem SC.ng (h:SC B w sc g c T v):sc≠g:=row_ne h.hs h.rm.blk (by decide)
theorem SC.later (h:SC B w sc g c T v) (hb:Below w.heap.size w w'):SC B w' sc g c T v:=⟨h.rm.kept (Kept.ofBelow (F:=fun _=>False) hb) (fun h=>h) (fun _ _ h=>h),row_later h.hs hb⟩
theorem SC.far (h:SC B w sc g c T v) (hk:Kept (fun k=>k=D) w w') (h1:D≠g) (h2:D≠sc) (h3:∀k,v.ownBlock=some k→k≠D):SC B w' sc g c T v:=
 ⟨h.rm.kept hk (fun e=>h1 e.symm) h3,row_kept h.hs hk (fun e=>h2 e.symm)⟩
theorem SC.new (h:SC B w sc g c T v):w.heap.size≠g∧w.heap.size≠sc∧∀k,v.ownBlock=some k→k≠w.heap.size:=by
 have h1:=row_lt h.rm.blk;have h2:=row_lt h.hs;refine ⟨by omega,by omega,fun k hk=>?_⟩;have:=(h.rm.row.lt k hk).2;omega
theorem SC.cell (h:SC B w sc g c T v):w.cell? ⟨sc,0,none⟩=some (.pointer (some ⟨g,0,none⟩)):=cell_of_row w sc 0 _ _ _ h.hs
end
/- .. with a block of the function's own beside it. -/
structure SB (B:Nat) (sc g:Nat) (T:List Bool) (v:Value) (w W:World) (c D:Nat) (O:Obj):Prop where
 st:SC B W sc g c T v
 hd:W.heap[D]? =some O
 kp:Kept (fun k=>k=g) w W
 nd:D≠g∧D≠sc∧∀k,v.ownBlock=some k→k≠D
 le:w.heap.size≤D
section
variable {B:Nat} {w w' W W':World} {sc g c c' D:Nat} {T:List Bool} {v:Value} {O:Obj} {cs:Array Value} {t:TypeId}
theorem SB.new (h:SC B w sc g c T v) (O:Obj):SB B sc g T v w (w.alloc O) c w.heap.size O:=⟨h.later (below_alloc w O),heap_alloc_last w O,Kept.ofBelow (below_alloc w O),h.new,Nat.le_refl _⟩
theorem SB.next (h:SB B sc g T v w W c D O) (hs:SC B W' sc g c' T v) (hk:Kept (fun k=>k=g) W W'):SB B sc g T v w W' c' D O:=
 ⟨hs,row_kept h.hd hk h.nd.1,h.kp.trans hk (fun _ _ e=>e),h.nd,h.le⟩
theorem SB.later (h:SB B sc g T v w W c D O) (hb:Below W.heap.size W W'):SB B sc g T v w W' c D O:=
 ⟨h.st.later hb,row_later h.hd hb,h.kp.trans (Kept.ofBelow (F:=fun _=>False) hb) (fun _ _ e=>e.elim),h.nd,h.le⟩
theorem kept_setRow (w:World) (D:Nat) (cs:Array Value):Kept (fun k=>k=D) w (w.setRow D cs):=
 ⟨by simp [World.setRow],by simp [World.setRow],by simp [World.setRow],by simp,fun k hk hn=>setRow_other hn cs⟩
theorem SB.setRow (h:SB B sc g T v w W c D (.cells cs t (0,0))) (ds:Array Value):SB B sc g T v w (W.setRow D ds) c D (.cells ds t (0,0)):=
 ⟨h.st.far (kept_setRow W D ds) h.nd.1 h.nd.2.1 h.nd.2.2,setRow_heap W D _ ds _ _ h.hd,h.kp.trans (kept_setRow W D ds) (fun i hi e=>by have:=h.le;omega),h.nd,h.le⟩
end
theorem kept_drewN (F:Nat→Prop) (w:World):∀n,Kept F w (w.drewN n)
 | 0=>Kept.refl _ _
 | n+1=>(kept_drewN F w n).trans (Kept.ofBelow (F:=fun _=>False) (drew_below _)) (fun _ _ e=>e.elim)
set_option maxRecDepth 100000 in
set_option maxHeartbeats 1000000 in
theorem num_any (B sc g c q:Nat) (T:List Bool) (v:Value) (w:World) (h:SC B w sc g c T v) (hT:T.length<4611686018427387904) (h1:1≤q) (h2:q≤32):
  Calls Tryz.prog 108 #[.pointer (some ⟨sc,0,none⟩),.int .i64 (q:Int)] w fun e w'=>e=.returned (.int .i64 ((tn q T c).1:Int))∧SC B w' sc g (tn q T c).2 T v∧Kept (fun k=>k=g) w w':=by
 have c0:=h.cell;have HS:Hid (SC B w sc g c T v):=h;by_cases hc:c+q≤T.length
 ·have hp:=Bt.rTake_yes B g c q T v w h.rm hT h1 (by omega) hc;have hx:=tn_lt q T c;have HE:Hid (tn q T c=(bv ((T.drop c).take q),c+q)):=by unfold Hid tn;rw [if_pos hc]
  rw [HE.out] at hx;rw [HE.out];dsimp only at hx ⊢;generalize bv ((T.drop c).take q)=x at *;have hq32:2^q≤4294967296:=by have:=Nat.pow_le_pow_right (n:=2) (by decide) h2;simpa using this
  have hwx:IntKind.i64.wrap (x:Int)=(x:Int):=Bt.wrap_fit _ (by omega) (by omega);clear hx h hT h1 h2 hc;go_enter Tryz.func108,Tryz.ntmps108;go_wp2_with fail
  refine hp.mono ?_;rintro e w2 ⟨rfl,hr,hk⟩;have HR:Hid (SC B w2 sc g (c+q) T v∧Kept (fun k=>k=g) w w2):=⟨⟨hr,row_kept HS.out.hs hk HS.out.ng⟩,hk⟩;clear hr hk hp c0;go_wp2_with fail
  go_ret;exact ⟨rfl,HR.out.1,HR.out.2⟩
 ·have hp:=Bt.rTake_no B g c T v (q:Int) w h.rm hT (fun hh=>hc (by have:=h.rm.le;have:=hh.2;omega));have HE:Hid (tn q T c=(0,c)):=by unfold Hid tn;rw [if_neg hc]
  rw [HE.out];dsimp only;clear h hT h1 h2 hc;go_enter Tryz.func108,Tryz.ntmps108;go_wp2_with fail
  refine hp.mono ?_;rintro e w2 ⟨rfl,n,rfl⟩;have HR:Hid (SC B (w.drewN n) sc g c T v∧Kept (fun k=>k=g) w (w.drewN n)):=⟨⟨HS.out.rm.drewN n,HS.out.hs⟩,kept_drewN _ w n⟩;clear hp c0;go_wp2_with fail
  go_ret;exact ⟨rfl,HR.out.1,HR.out.2⟩
set_option maxRecDepth 100000 in
set_option maxHeartbeats 1000000 in
theorem rKey_any (B sc g c:Nat) (T:List Bool) (v:Value) (w:World) (h:SC B w sc g c T v) (hT:T.length<4611686018427387904):
  Calls Tryz.prog 111 #[.pointer (some ⟨sc,0,none⟩)] w fun e w'=>e=.returned (.agg (stl (tK T c).1).toArray)∧SC B w' sc g (tK T c).2 T v∧Kept (fun k=>k=g) w w':=by
 have HB:Hid _:=SB.new h (.cells #[.int .i64 0,.int .i64 0] 46);have HT:Hid (T.length<4611686018427387904):=hT;have HN:Hid (tK T c=(((((tn 16 T c).1:Nat):Int),(((tn 8 T (tn 16 T c).2).1:Nat):Int)),(tn 8 T (tn 16 T c).2).2)):=rfl;rw [HN.out];obtain ⟨p1,hp1⟩:∃p,tn 16 T c=p:=⟨_,rfl⟩;have hn1:=num_any B sc g c 16 T v _ HB.out.st hT (by omega) (by omega);rw [hp1] at hn1 ⊢;obtain ⟨x,c1⟩:=p1;dsimp only at hn1 ⊢;obtain ⟨p2,hp2⟩:∃p,tn 8 T c1=p:=⟨_,rfl⟩;have HP2:Hid (tn 8 T c1=p2):=hp2;rw [hp2];obtain ⟨y,c2⟩:=p2;dsimp only [stl];clear h hT HN hp1 hp2;go_enter Tryz.func111,Tryz.ntmps111;go_wp2_with fail
 refine hn1.mono ?_;rintro e w2 ⟨rfl,hs2,hk2⟩;have HB2:Hid _:=HB.out.next hs2 hk2;clear hn1 hs2 hk2 HB;have hn2:=num_any B sc g c1 8 T v w2 HB2.out.st HT.out (by omega) (by omega);rw [HP2.out] at hn2;dsimp only at hn2;go_wp2_with fail
 refine hn2.mono ?_;rintro e w3 ⟨rfl,hs3,hk3⟩;have HB3:Hid _:=HB2.out.next hs3 hk3;clear hn2 hs3 hk3 HB2;go_wp2_with (refine stW szKey HB3.out.hd rfl [.int .i64 (x:Int),.int .i64 (y:Int)] rfl rfl rfl _ _ rfl rfl rfl ?_)
 have hb5:=HB3.out.setRow #[.int .i64 (x:Int),.int .i64 (y:Int)];refine bodyPost_ret (res1 (T:=46) (p:=2) rfl _ _ w.heap.size #[.int .i64 (x:Int),.int .i64 (y:Int)] rfl (run_loadVar_row _ w.heap.size _ 46 _ _ _ hb5.hd Tryz.underlying46 rfl szKey)) rfl ?_;exact ⟨rfl,hb5.st,hb5.kp⟩
set_option maxRecDepth 100000 in
set_option maxHeartbeats 1000000 in
theorem rBox_any (B sc g c:Nat) (T:List Bool) (v:Value) (w:World) (h:SC B w sc g c T v) (hT:T.length<4611686018427387904):
  Calls Tryz.prog 110 #[.pointer (some ⟨sc,0,none⟩)] w fun e w'=>e=.returned (.agg (bxl (tB T c).1).toArray)∧SC B w' sc g (tB T c).2 T v∧Kept (fun k=>k=g) w w':=by
 have hb:=SB.new h (.cells #[.int .i64 0,.int .i64 0,.int .i64 0,.int .i64 0] 85);have HT:Hid (T.length<4611686018427387904):=hT;have HN:Hid (tB T c=(((tK T c).1,(tK T (tK T c).2).1),(tK T (tK T c).2).2)):=rfl;rw [HN.out];have hp:=rKey_any B sc g c T v _ hb.st hT;obtain ⟨p1,hp1⟩:∃p,tK T c=p:=⟨_,rfl⟩;rw [hp1] at hp ⊢;obtain ⟨⟨kb,ks⟩,c1⟩:=p1;dsimp only [stl] at hp ⊢;obtain ⟨p2,hp2⟩:∃p,tK T c1=p:=⟨_,rfl⟩;have HP2:Hid (tK T c1=p2):=hp2;rw [hp2];obtain ⟨⟨lb,ls⟩,c2⟩:=p2;dsimp only [bxl];have HB:Hid _:=hb;clear h hT HN hp1 hp2 hb;go_enter Tryz.func110,Tryz.ntmps110;go_wp2_with fail
 refine hp.mono ?_;rintro e w2 ⟨rfl,hs2,hk2⟩;have hb2:=HB.out.next hs2 hk2;clear hp hs2 hk2 HB;go_upto_region 2 with (fail)
 obtain ⟨D,hDe⟩:∃D,w.heap.size=D:=⟨_,rfl⟩;rw [hDe] at hb2 ⊢;clear hDe;have hb3:=hb2.later (below_alloc w2 (.cells #[.int .i64 kb,.int .i64 ks] 46));have hE:=heap_alloc_last w2 (.cells #[.int .i64 kb,.int .i64 ks] 46);have hnw:=hb2.st.new;have HED:Hid (w2.heap.size≠D):=by have:=row_lt hb2.hd;unfold Hid;omega
 generalize w2.alloc (.cells #[.int .i64 kb,.int .i64 ks] 46)=w3 at *;generalize w2.heap.size=E at *;have hb4:=hb3.later (drew_below w3);have hE4:w3.drew.heap[E]? =some (.cells #[.int .i64 kb,.int .i64 ks] 46):=hE;have HEg:Hid (E≠g):=hnw.1;have hp:=rKey_any B sc g c1 T v w3.drew hb4.st HT.out;rw [HP2.out] at hp;dsimp only [stl] at hp;have HB4:Hid (SB B sc g T v w w3.drew c1 D (.cells #[.int .i64 0,.int .i64 0,.int .i64 0,.int .i64 0] 85)):=hb4;have k0:w3.cell? ⟨E,0,none⟩=some (.int .i64 kb):=cell_of_row w3 E 0 _ _ _ hE;have k1:w3.cell? ⟨E,1,none⟩=some (.int .i64 ks):=cell_of_row w3 E 1 _ _ _ hE;clear hb2 hb3 hb4 hE hnw;refine wp_region_held_drew (S:=fun W=>W.cell? ⟨E,0,none⟩=some (.int .i64 kb)∧W.cell? ⟨E,1,none⟩=some (.int .i64 ks)) (by kernel_rfl) ⟨k0,k1⟩ (fun hHeld=>?_);refine opX 0 (.agg #[.int .i64 kb,.int .i64 ks]) rfl ?_;go_frame;refine opX 1 (.pointer (some ⟨sc,0,none⟩)) rfl ?_;go_frame;refine rdy 2 rfl fun K hK=>?_;go_simp
 refine hp.mono ?_;rintro e w4 ⟨rfl,hs4,hk4⟩;have hE5:=row_kept hE4 hk4 HEg.out;have HB5:Hid (SB B sc g T v w w4 c2 D (.cells #[.int .i64 0,.int .i64 0,.int .i64 0,.int .i64 0] 85)):=HB4.out.next hs4 hk4;have HE5:Hid (w4.heap[E]? =some (.cells #[.int .i64 kb,.int .i64 ks] 46)):=hE5;have hS5:w4.cell? ⟨E,0,none⟩=some (.int .i64 kb)∧w4.cell? ⟨E,1,none⟩=some (.int .i64 ks):=⟨cell_of_row w4 E 0 _ _ _ hE5,cell_of_row w4 E 1 _ _ _ hE5⟩;clear hp hs4 hk4 hE5;go_wp2_with fail
 refine hK.out _ _ hS5 (fun hHeld2=>?_);clear hHeld hS5;clear hK K;try go_frame
 refine opX 3 (.agg #[.int .i64 kb,.int .i64 ks,.int .i64 lb,.int .i64 ls]) rfl ?_;go_frame;refine rdy 4 rfl fun Kc hK=>?_;have hE6:=(setRow_other HED.out #[.int .i64 kb,.int .i64 ks,.int .i64 lb,.int .i64 ls]).trans HE5.out;have HB6:Hid (SB B sc g T v w (w4.setRow D #[.int .i64 kb,.int .i64 ks,.int .i64 lb,.int .i64 ls]) c2 D (.cells #[.int .i64 kb,.int .i64 ks,.int .i64 lb,.int .i64 ls] 85)):=HB5.out.setRow _;refine if_wp rfl (wp_stRow0 85 _ _ rfl D [.int .i64 kb,.int .i64 ks,.int .i64 lb,.int .i64 ls] rfl rfl _ HB5.out.hd szBox rfl rfl rfl ?_);refine hK.out _ _ ⟨cell_of_row _ E 0 _ _ _ hE6,cell_of_row _ E 1 _ _ _ hE6⟩ (fun hHeld3=>?_);clear hHeld2 hE6;clear hK Kc;try go_frame
 refine wpAnyH_done (by kernel_rfl) ?_ _;go_wp2_with fail
 refine bodyPost_ret (res1 (T:=85) (p:=2) rfl _ _ D #[.int .i64 kb,.int .i64 ks,.int .i64 lb,.int .i64 ls] rfl (run_loadVar_row _ D _ 85 _ _ _ HB6.out.hd Tryz.underlying85 rfl szBox)) rfl ?_;exact ⟨rfl,HB6.out.st,HB6.out.kp⟩
theorem infoSt:(Tryz.prog.info? 165).map (fun i=>(i.zero,i.size,i.bytes))=some (some (.agg #[.int .i64 0,.int .i64 0]),2,16):=by kernel_rfl
theorem infoSt_parts:∃i,Tryz.prog.info? 165=some i∧i.zero=some (.agg #[.int .i64 0,.int .i64 0])∧i.size=2∧i.bytes=16:=by
 have h:=infoSt
 cases hq:Tryz.prog.info? 165 with
 | none=>rw [hq] at h;cases h
 | some i=>
  rw [hq] at h;simp at h;exact ⟨i,rfl,h.1,h.2.1,h.2.2⟩
/- An append to a list that is newer than the reader. -/
theorem grown_kept {B:Nat} {w w4 w5:World} {sc g c c0 T2 k n:Nat} {T:List Bool} {v u:Value} {o:Obj} {xs:List Value} (hs:SC B w4 sc g c T v) (hg:(w4.alloc o).grownBy w5 u.ownBlock) (hr:w4.ownsRow w.heap.size T2 k u n xs) (h0:SC B w sc g c0 T v):SC B w5 sc g c T v∧Kept (fun k=>u.ownBlock=some k) w4 w5∧∀i,i<w.heap.size→u.ownBlock=some i→i=g:=by
 have hk:Kept (fun k=>u.ownBlock=some k) w4 w5:=by
  refine ⟨hg.os,hg.tape,hg.output,by have:=hg.size;simp at this;omega,fun i hi hn=>?_⟩;rw [hg.block i (by simp;omega) (fun e=>hn e.symm)];exact (below_alloc w4 _).block i hi
 have hf:∀i,i<w.heap.size→¬u.ownBlock=some i:=fun i hi e=>by have:=(hr.lt i e).1;omega
 refine ⟨⟨hs.rm.kept hk (hf g (row_lt h0.rm.blk)) (fun i hi=>hf i (h0.rm.row.lt i hi).2),?_⟩,hk,fun i hi e=>absurd e (hf i hi)⟩;exact (hk.block sc (row_lt hs.hs) (hf sc (row_lt h0.hs))).trans hs.hs
theorem tl_len {α:Type} (d:List Bool→Nat→α×Nat) (T:List Bool) (c:Nat):∀n,(tl d T c n).1.length=n
 | 0=>rfl
 | n+1=>by rw [tl,List.length_append,tl_len d T c n];rfl
set_option maxRecDepth 100000 in
set_option maxHeartbeats 1000000 in
theorem rScanS_any (B sc g c:Nat) (T:List Bool) (v:Value) (w:World) (h:SC B w sc g c T v) (hT:T.length<4611686018427387904):
  Calls Tryz.prog 109 #[.pointer (some ⟨sc,0,none⟩)] w fun e w'=>∃x,e=.returned x∧w'.ownsRow w.heap.size 165 2 x (tc 7 tS T c).1.length ((tc 7 tS T c).1.flatMap stl)∧SC B w' sc g (tc 7 tS T c).2 T v∧Kept (fun k=>k=g) w w':=by
 obtain ⟨i0,hi,hz0,hz1,hz2⟩:=infoSt_parts;have HS:Hid (SC B w sc g c T v):=h;have HT:Hid (T.length<4611686018427387904):=hT;have hp:=num_any B sc g c 7 T v w h hT (by omega) (by omega);have HN:Hid (tc 7 tS T c=tl tS T (tn 7 T c).2 (tn 7 T c).1):=rfl;have hlt:=tn_lt 7 T c;rw [HN.out];generalize tn 7 T c=p at *;obtain ⟨n,c1⟩:=p;dsimp only at hp hlt ⊢;clear h hT HN;go_enter Tryz.func109,Tryz.ntmps109;go_wp2_with fail
 refine hp.mono ?_;rintro e w2 ⟨rfl,hs2,hk2⟩;have H2:Hid (SC B w2 sc g c1 T v∧Kept (fun k=>k=g) w w2):=⟨hs2,hk2⟩;clear hp hs2 hk2;go_wp2_with fail
 go_loopw [3,5] (fun x i wr=>∃k:Nat,k≤n∧i=.int .i64 (k:Int)∧wr.ownsRow w.heap.size 165 2 x k ((tl tS T c1 k).1.flatMap stl)∧SC B wr sc g (tl tS T c1 k).2 T v∧Kept (fun k=>k=g) w wr) (fun _ i _=>n - (intOf i).toNat)
 case atStart=>exact ⟨0,by omega,rfl,World.ownsRow_nil _ _ _ _,H2.out.1,H2.out.2⟩
 case round=>
  obtain ⟨k,hk,rfl,hr,hs,hkp⟩:=hrel;have HR:Hid (wr.ownsRow w.heap.size 165 2 u3 k ((tl tS T c1 k).1.flatMap stl)):=hr;have HK:Hid (Kept (fun k=>k=g) w wr):=hkp;have HX:Hid (tl tS T c1 (k+1)=((tl tS T c1 k).1++[(tS T (tl tS T c1 k).2).1],(tS T (tl tS T c1 k).2).2)):=rfl;have HLN:Hid ((tl tS T c1 k).1.length=k):=tl_len _ _ _ _;have HS2:Hid (SC B wr sc g (tl tS T c1 k).2 T v):=hs;clear hr hkp H2 hs;by_cases hkn:k<n
  ·have i1:(k:Int)<(n:Int):=by omega
   generalize tl tS T c1 k=lc at *;obtain ⟨l,c2⟩:=lc;dsimp only at HR HX HLN HS2;have hp:=num_any B sc g c2 8 T v wr HS2.out HT.out (by omega) (by omega);have HTS:Hid (tS T c2=(((((tn 8 T c2).1:Nat):Int),(((tn 6 T (tn 8 T c2).2).1:Nat):Int)),(tn 6 T (tn 8 T c2).2).2)):=rfl;rw [HTS.out] at HX;generalize tn 8 T c2=p at *;obtain ⟨x,c3⟩:=p;dsimp only at hp HX;go_wp2_with fail
   refine hp.mono ?_;rintro e w3 ⟨rfl,hs3,hk3⟩;have HS3:Hid (SC B w3 sc g c3 T v):=hs3
   have hr3:=hk3.row HR.out (fun j hj e=>by
    subst e;have h1:=(HR.out.lt j hj).1;have h2:=row_lt HS.out.rm.blk
    omega)
   have HK3:Hid (Kept (fun k=>k=g) w w3):=HK.out.trans hk3 (fun _ _ e=>e);have HR3:Hid (w3.ownsRow w.heap.size 165 2 u3 k (l.flatMap stl)):=hr3;clear hp hs3 hk3 hr3 HR HK HS2;have hp:=num_any B sc g c3 6 T v w3 HS3.out HT.out (by omega) (by omega);generalize tn 6 T c3=p at *;obtain ⟨y,c4⟩:=p;dsimp only at hp HX;go_wp2_with fail
   refine hp.mono ?_;rintro e w4 ⟨rfl,hs4,hk4⟩;have HS4:Hid (SC B w4 sc g c4 T v):=hs4
   have hr4:=hk4.row HR3.out (fun j hj e=>by
    subst e;have h1:=(HR3.out.lt j hj).1;have h2:=row_lt HS.out.rm.blk
    omega)
   have HK4:Hid (Kept (fun k=>k=g) w w4):=HK3.out.trans hk4 (fun _ _ e=>e);have hsz:w.heap.size≤w4.heap.size:=HK4.out.size;clear hp hs4 hk4 HR3 HK3 HS3;go_wp2_with (at_builtin;(refine wpList_append_own _ rfl _ _ 75 rfl w.heap.size 165 i0 (.agg #[.int .i64 0,.int .i64 0]) 2 16 Tryz.underlying75 hi hz0 hz1 hz2 rfl (by decide) u3 k (l.flatMap stl) rfl (hr4.alloc _) ⟨w4.heap.size,0,none⟩ 1 1 [.int .i64 (x:Int),.int .i64 (y:Int)] rfl rfl (cell_row_new _ _ _) (by simp [Value.oneCell']) (by unfold maxLen;omega) (by omega) (by simp;omega) ?_);intro v' w5 hown hg5 _;have HO:Hid (w5.ownsRow w.heap.size 165 2 v' (k+1) (l.flatMap stl++[.int .i64 (x:Int),.int .i64 (y:Int)])):=hown;have HG5:Hid ((w4.alloc (.cells #[.int .i64 (x:Int),.int .i64 (y:Int)] 165)).grownBy w5 u3.ownBlock):=hg5;clear hown hg5)
   have HR4:Hid (w4.ownsRow w.heap.size 165 2 u3 k (l.flatMap stl)):=hr4;go_roundw
   case rel=>
    obtain ⟨kA,kB,kC⟩:=grown_kept HS4.out HG5.out HR4.out HS.out;refine ⟨k+1,by omega,by go_num,?_,?_,HK4.out.trans kB kC⟩
    ·rw [HX.out];dsimp only;rw [List.flatMap_append];simpa [stl] using HO.out
    ·rw [HX.out];exact kA
   case measure=>simp [intOf];omega
  ·have hkn':decide ((k:Int)<(n:Int))=false:=by simp;omega
   obtain rfl:k=n:=by omega
   go_wp2_with fail
   go_ret;refine ⟨_,rfl,?_,HS2.out,HK.out⟩;rw [HLN.out];exact HR.out
open Bt (Kept Rm tb bys bv tx u8s)
/- A message whose lists are rows of their own, in blocks from n on. -/
def MO (n:Nat) (w:World) (m:Msg) (ct:List Value):Prop:=∃aL cL aJ cJ aI cI,ct=mgv m aL aJ aI cL cJ cI∧w.ownsRow n 165 2 (.slice aL m.rk.2.1.length cL) m.rk.2.1.length (m.rk.2.1.flatMap stl)∧w.ownsRow n 165 2 (.slice aJ m.rk.2.2.1.length cJ) m.rk.2.2.1.length (m.rk.2.2.1.flatMap stl)∧w.ownsRow n 121 6 (.slice aI m.rk.2.2.2.length cI) m.rk.2.2.2.length (m.rk.2.2.2.flatMap itl)∧(m.rk.2.1.length<4611686018427387904∧m.rk.2.2.1.length<4611686018427387904∧m.rk.2.2.2.length<4611686018427387904∧m.sd.2.2.size<4611686018427387904)
section
variable {n n':Nat} {w w':World} {m:Msg} {ct:List Value}
theorem MO.mv (h:MO n w m ct):MV w m ct:=by
 obtain ⟨aL,cL,aJ,cJ,aI,cI,e,oL,oJ,oI,n1,n2,n3,n4⟩:=h;exact ⟨aL,aJ,aI,cL,cJ,cI,e,⟨rd_owns (f:=stl) (fun _=>rfl) oL,rd_owns (f:=stl) (fun _=>rfl) oJ,rd_owns (f:=itl) (fun _=>rfl) oI,n1,n2,n3,n4⟩⟩
theorem MO.wide (h:MO n w m ct) (hn:n'≤n):MO n' w m ct:=by
 obtain ⟨aL,cL,aJ,cJ,aI,cI,e,oL,oJ,oI,r⟩:=h;exact ⟨aL,cL,aJ,cJ,aI,cI,e,owns_wide oL hn,owns_wide oJ hn,owns_wide oI hn,r⟩
theorem MO.block (h:MO n w m ct) (hk:∀g,n≤g→g<w.heap.size→w'.heap[g]? =w.heap[g]?):MO n w' m ct:=by
 obtain ⟨aL,cL,aJ,cJ,aI,cI,e,oL,oJ,oI,r⟩:=h;exact ⟨aL,cL,aJ,cJ,aI,cI,e,owns_block oL hk,owns_block oJ hk,owns_block oI hk,r⟩
theorem MO.later (h:MO n w m ct) (hb:Below w.heap.size w w'):MO n w' m ct:=h.block fun g _ hg=>hb.block g hg
end
structure SM (B sc g:Nat) (T:List Bool) (v:Value) (w W:World) (c D:Nat) (O:Obj) (M:Nat) (m:Msg) (vL vJ vI:Value):Prop where
 sb:SB B sc g T v w W c D O
 hm:MgAt W M m vL vJ vI
 nm:(M≠g∧M≠sc∧∀k,v.ownBlock=some k→k≠M)∧M≠D
 lm:w.heap.size≤M
section
variable {B:Nat} {w w' W W':World} {sc g c c' D M:Nat} {T:List Bool} {v vL vJ vI xL xJ xI:Value} {O:Obj} {m m':Msg}
theorem SM.next (h:SM B sc g T v w W c D O M m vL vJ vI) (hs:SC B W' sc g c' T v) (hk:Kept (fun k=>k=g) W W'):SM B sc g T v w W' c' D O M m vL vJ vI:=
 ⟨h.sb.next hs hk,row_kept h.hm hk h.nm.1.1,h.nm,h.lm⟩
theorem SM.later (h:SM B sc g T v w W c D O M m vL vJ vI) (hb:Below W.heap.size W W'):SM B sc g T v w W' c D O M m vL vJ vI:=
 ⟨h.sb.later hb,h.hm.later hb,h.nm,h.lm⟩
theorem SM.far (h:SM B sc g T v w W c D O M m vL vJ vI) (hk:Kept (fun k=>k=M) W W') (hm:MgAt W' M m' xL xJ xI):SM B sc g T v w W' c D O M m' xL xJ xI:=
 ⟨⟨h.sb.st.far hk h.nm.1.1 h.nm.1.2.1 h.nm.1.2.2,row_kept h.sb.hd hk (fun e=>h.nm.2 e.symm),h.sb.kp.trans hk (fun i hi e=>by have:=h.lm;omega),h.sb.nd,h.sb.le⟩,hm,h.nm,h.lm⟩
theorem SM.set (h:SM B sc g T v w W c D O M m vL vJ vI) (o:Nat) (x:Value) (e:(mgl m vL vJ vI).toArray.setIfInBounds o x=(mgl m' xL xJ xI).toArray):SM B sc g T v w (W.setCell ⟨M,o,none⟩ x) c D O M m' xL xJ xI:=
 h.far ((Kept.refl (fun k=>k=M) W).setCell (p:=⟨M,o,none⟩) (fun _=>rfl) x) (by have:=row_set h.hm o x;rw [e] at this;exact this)
theorem SM.cell (h:SM B sc g T v w W c D O M m vL vJ vI) (o:Nat) (x:Value) (e:(mgl m vL vJ vI)[o]? =some x):W.cell? ⟨M,o,none⟩=some x:=h.hm.cell o x e
theorem SM.fr (h:SM B sc g T v w W c D O M m vL vJ vI) (o:Nat):W.frozen? ⟨M,o,none⟩=false:=row_fr h.hm o
end
theorem stN {T:TypeId} {n:Nat} (hi:(Tryz.prog.info? T).map (·.size)=some n) {ops:Array Oper} {rest:List Oper} {o:Oper} {a:Act} {w0:World} {Q:Exit→Act→World→Prop} {cs:Array Value} (hs:cs.size=n) (ds:List Value) (hd:ds.length=n) (h1:ds.all (·.oneCell')=true) (hgd:o.guard=none) (x y:Operand) (ho:o.op=.store T x y)
  (hx:a.eval x=.pointer (some ⟨w0.heap.size,0,none⟩)) (hy:a.eval y=.agg ds.toArray) (k:wpList Tryz.prog ops Q rest (a.put o.dst undef) (w0.alloc (.cells ds.toArray T))):wpList Tryz.prog ops Q (o::rest) a (w0.alloc (.cells cs T)):=by
 refine stW hi (heap_alloc_last w0 _) hs ds hd h1 hgd x y ho hx hy ?_;rw [World.setRow_alloc_new];exact k
theorem SM.grown {B:Nat} {w w4 w5:World} {sc g c c0 D M T2 k n:Nat} {T:List Bool} {v u vL vJ vI:Value} {O o:Obj} {m:Msg} {xs:List Value} (h:SM B sc g T v w w4 c D O M m vL vJ vI) (h0:SC B w sc g c0 T v) (hr:w4.ownsRow (M+1) T2 k u n xs) (hg:(w4.alloc o).grownBy w5 u.ownBlock) (hDM:D≤M):SM B sc g T v w w5 c D O M m vL vJ vI:=by
 have hr':w4.ownsRow w.heap.size T2 k u n xs:=owns_wide hr (by have:=h.lm;omega);obtain ⟨kA,kB,kC⟩:=grown_kept h.sb.st hg hr' h0;have hf:∀i,i≤M→¬u.ownBlock=some i:=fun i hi e=>by have:=(hr.lt i e).1;omega
 exact ⟨⟨kA,(kB.block D (row_lt h.sb.hd) (hf D hDM)).trans h.sb.hd,h.sb.kp.trans kB kC,h.sb.nd,h.sb.le⟩,(kB.block M (row_lt h.hm) (hf M (Nat.le_refl _))).trans h.hm,h.nm,h.lm⟩
end Go.Proofs.YtoimkngkcliinaaGreatDoor.Wi
