/- RtB, RtC, RtD, joined. -/
import Derived.Test.YtanaapfobpgibaaGreatDoorJRtMath
import Derived.Lib.BitFns
open Go.Proofs.Tryz
set_option maxHeartbeats 1000000
namespace Go.Proofs.YtanaapfobpgibaaGreatDoor.Rt
open Go.RowKit
set_option linter.unusedVariables false
set_option linter.unusedSimpArgs false
/- What stands while Check looks at a key. -/
variable {f:Nat→Ky} {k:Nat} {e:Ky}
structure CS (w W:World) (B Be:Nat) (f:Nat→Ky) (e:Ky):Prop where
 ks:bq W B f
 ky:cK W Be e
 aK:Below w.heap.size w W
theorem CS.later {w W W':World} {B Be:Nat} {f:Nat→Ky} {e:Ky} (h:CS w W B Be f e) (hb:Below W.heap.size W W'):CS w W' B Be f e:=⟨h.ks.later hb,h.ky.later hb,h.aK.trans (hb.mono h.aK.size)⟩
theorem aG (w:World):Below w.heap.size w w.drew:=⟨rfl,rfl,rfl,Nat.le_refl _,fun _ _=>rfl⟩
theorem aa (w:World) (o:Obj):Below w.heap.size w (w.alloc o):=(Below.refl _ w).alloc (Nat.le_refl _) _
theorem C3 (he:f k=e) (h:gd e.aB e.bp=false):y9 f k=false:=by unfold y9;rw [he,h];rfl
theorem C2 (he:f k=e) (h:decide (e.aB<32768)=false):y9 f k=false:=by unfold y9;rw [he,h,Bool.false_and,Bool.and_false]
theorem C1 (he:f k=e) (h:Ex f k e.aB (e.aB+1)=true):y9 f k=false:=by unfold y9;rw [he,h,Bool.not_true,Bool.and_false,Bool.and_false]
theorem C0 (he:f k=e) (h1:gd e.aB e.bp=true) (h2:decide (e.aB<32768)=true) (h3:Ex f k e.aB (e.aB+1)=false):y9 f k=true:=by unfold y9;rw [he,h1,h2,h3];rfl
theorem Yc (h:gd e.aB e.bp=true):own e.aB=decide (e.aB<32768):=by
 have:=(Gr.1 h).1;unfold own;rw [decide_eq_true this,Bool.true_and]
set_option maxRecDepth 100000 in
theorem fH (f:Nat→Ky) (w:World):Calls prog 145 #[.agg (bF f)] w fun r w'=>r=.returned (.int .i64 (tj f))∧Below w.heap.size w w':=by
 have hn:=bq.new w f;have cA:=jK w f;go_enter func145,ntmps145;go_upto_region 1 with (fail)
 generalize w.alloc (.cells (bF f) 33)=w1 at *;refine wp_region_lit ?_;refine Yu hn rfl _ rfl rfl ?_;obtain ⟨B,uj⟩:∃B,w.heap.size=B:=⟨_,rfl⟩;rw [uj] at hn;obtain ⟨c,hc⟩:∃c,bF f=c:=⟨_,rfl⟩;rw [hc];go_wp2_with fail
 go_loopw [6] (fun i wx=>∃k:Nat,k≤21∧i=.int .i64 (k:Int)∧Below w1.heap.size w1 wx∧∀j,j<k→y9 f j=true) (fun i _=>21 - (intOf i).toNat)
 case atStart=>exact ⟨0,by omega,rfl,Below.refl _ _,fun j hj=>by omega⟩
 case round=>
  obtain ⟨k,hk,rfl,hb,hf⟩:=hrel;have HB:Hid (Below w.heap.size w wr):=cA.trans (hb.mono cA.size);have fE:Hid (Below w1.heap.size w1 wr):=hb;have HF:Hid (∀j,j<k→y9 f j=true):=hf;by_cases dA:k<21
  ·have k8:(k:Int)<21:=by omega
   have k9:(k:Int)≤21:=by omega
   have hi:=YE f k dA;rw [hc] at hi;have hS:CS wr (wr.alloc (.cells #[.int .i64 (f k).aB,.int .i64 (f k).bp] 31)) B wr.heap.size f (f k):=⟨(hn.later hb).later (lh wr (f k)),cK.new _ _,lh wr (f k)⟩;obtain ⟨e,he⟩:∃e,f k=e:=⟨_,rfl⟩;rw [he] at hi hS;have HE:Hid (f k=e):=he;clear hc he hb hf;go_upto_region 4 with (fail)
   generalize wr.alloc (.cells #[.int .i64 e.aB,.int .i64 e.bp] 31)=w2 at *;obtain ⟨Be,tI⟩:∃Be,wr.heap.size=Be:=⟨_,rfl⟩;rw [tI] at hS ⊢;have HBe:Hid (wr.heap.size=Be):=tI;have VB:Hid (w.heap.size=B):=uj;have hg:=qG e.aB e.bp;have ho:=y_ e.aB;have II:∀W,bq W B f→Calls prog 203 #[.slice (some ⟨B,0,none⟩) k 21,.int .i64 e.aB,.int .i64 (e.aB+1)] W fun r w'=>r=.returned (.bool (Ex f k e.aB (e.aB+1)))∧Below W.heap.size W w':=fun W h=>yX k 21 (by omega) e.aB (e.aB+1) W h
   have dm:CS wr w2.drew B Be f e:=hS.later (aG _);clear hi tI uj hn
   cases hgd:gd e.aB e.bp with
   | false=>
    rw [hgd] at hg;refine wp_region_held_drew (S:=fun W=>CS wr W B Be f e) (by kernel_rfl) dm (fun hHeld=>?_);refine dG 0 (.agg #[.int .i64 e.aB,.int .i64 e.bp]) rfl (fun w hSw=>by obtain ⟨c0,c1⟩:=hSw.ky.cells;clear hSw;go_simp) ?_;go_frame;refine dh 1 rfl fun K hK=>?_;go_simp
    refine (hg _).mono ?_;rintro r w3 ⟨rfl,rfl⟩;go_wp2_with fail
    refine hK.out _ _ (hHeld.later (aa _ _)) (fun aD=>?_);clear hHeld;clear hK K;try go_frame
    refine aH 2 (.bool true) rfl ?_;go_frame;refine aH 3 (.bool true) rfl ?_;go_frame;refine sg 4 rfl ?_;go_frame;refine sg 5 rfl ?_;go_frame;refine sg 6 rfl ?_;go_frame;refine sg 7 rfl ?_;go_frame;refine aH 8 (.bool true) rfl ?_;go_frame;refine aH 9 (.bool true) rfl ?_;go_frame;refine sg 10 rfl ?_;go_frame;refine sg 11 rfl ?_;go_frame;refine sg 12 rfl ?_;go_frame;refine sg 13 rfl ?_;go_frame;refine sg 14 rfl ?_;go_frame;refine sg 15 rfl ?_;go_frame;refine sg 16 rfl ?_;go_frame;refine sg 17 rfl ?_;go_frame;refine aH 18 (.bool true) rfl ?_;go_frame;refine wpAnyH_done (by kernel_rfl) ?_ _;go_wp2_with fail
    go_ret;exact ⟨aj (by rw [fh (kS dA (C3 HE.out hgd))]),HB.out.trans (aD.aK.mono HB.out.size)⟩
   | true=>
    rw [hgd] at hg;rw [Yc hgd] at ho
    cases how:decide (e.aB<32768) with
    | false=>
     rw [how] at ho;refine wp_region_held_drew (S:=fun W=>CS wr W B Be f e) (by kernel_rfl) dm (fun hHeld=>?_);refine dG 0 (.agg #[.int .i64 e.aB,.int .i64 e.bp]) rfl (fun w hSw=>by obtain ⟨c0,c1⟩:=hSw.ky.cells;clear hSw;go_simp) ?_;go_frame;refine dh 1 rfl fun K hK=>?_;go_simp
     refine (hg _).mono ?_;rintro r w3 ⟨rfl,rfl⟩;go_wp2_with fail
     refine hK.out _ _ (hHeld.later (aa _ _)) (fun aD=>?_);clear hHeld;clear hK K;try go_frame
     refine aH 2 (.bool false) rfl ?_;go_frame;refine aH 3 (.bool false) rfl ?_;go_frame;refine aH 4 (.pointer (some ⟨Be,0,none⟩)) rfl ?_;go_frame;refine dG 5 (.int .i64 e.aB) rfl (fun w hSw=>by obtain ⟨c0,c1⟩:=hSw.ky.cells;clear hSw;go_simp) ?_;go_frame;refine dh 6 rfl fun K hK=>?_;go_simp
     refine (ho _).mono ?_;rintro r w4 ⟨rfl,rfl⟩;go_wp2_with fail
     refine hK.out _ _ aD (fun aN=>?_);clear aD;clear hK K;try go_frame
     refine aH 7 (.bool true) rfl ?_;go_frame;refine aH 8 (.bool true) rfl ?_;go_frame;refine aH 9 (.bool true) rfl ?_;go_frame;refine sg 10 rfl ?_;go_frame;refine sg 11 rfl ?_;go_frame;refine sg 12 rfl ?_;go_frame;refine sg 13 rfl ?_;go_frame;refine sg 14 rfl ?_;go_frame;refine sg 15 rfl ?_;go_frame;refine sg 16 rfl ?_;go_frame;refine sg 17 rfl ?_;go_frame;refine aH 18 (.bool true) rfl ?_;go_frame;refine wpAnyH_done (by kernel_rfl) ?_ _;go_wp2_with fail
     go_ret;exact ⟨aj (by rw [fh (kS dA (C2 HE.out how))]),HB.out.trans (aN.aK.mono HB.out.size)⟩
    | true=>
     rw [how] at ho;have hwr:IntKind.i64.wrap (e.aB+1)=e.aB+1:=bC _ (by have:=(Gr.1 hgd).1;omega) (by have:=of_decide_eq_true how;omega);have i1:(0:Int)≤(k:Int):=by omega
     cases yb:Ex f k e.aB (e.aB+1) with
     | true=>
      rw [yb] at II;refine wp_region_held_drew (S:=fun W=>CS wr W B Be f e) (by kernel_rfl) dm (fun hHeld=>?_);refine dG 0 (.agg #[.int .i64 e.aB,.int .i64 e.bp]) rfl (fun w hSw=>by obtain ⟨c0,c1⟩:=hSw.ky.cells;clear hSw;go_simp) ?_;go_frame;refine dh 1 rfl fun K hK=>?_;go_simp
      refine (hg _).mono ?_;rintro r w3 ⟨rfl,rfl⟩;go_wp2_with fail
      refine hK.out _ _ (hHeld.later (aa _ _)) (fun aD=>?_);clear hHeld;clear hK K;try go_frame
      refine aH 2 (.bool false) rfl ?_;go_frame;refine aH 3 (.bool false) rfl ?_;go_frame;refine aH 4 (.pointer (some ⟨Be,0,none⟩)) rfl ?_;go_frame;refine dG 5 (.int .i64 e.aB) rfl (fun w hSw=>by obtain ⟨c0,c1⟩:=hSw.ky.cells;clear hSw;go_simp) ?_;go_frame;refine dh 6 rfl fun K hK=>?_;go_simp
      refine (ho _).mono ?_;rintro r w4 ⟨rfl,rfl⟩;go_wp2_with fail
      refine hK.out _ _ aD (fun aN=>?_);clear aD;clear hK K;try go_frame
      refine aH 7 (.bool false) rfl ?_;go_frame;refine aH 8 (.bool false) rfl ?_;go_frame;refine aH 9 (.bool false) rfl ?_;go_frame;refine aH 10 (.int .i64 (k:Int)) rfl ?_;go_frame;refine aH 11 (.slice (some ⟨B,0,none⟩) k 21) rfl ?_;go_frame;refine aH 12 (.pointer (some ⟨Be,0,none⟩)) rfl ?_;go_frame;refine dG 13 (.int .i64 e.aB) rfl (fun w hSw=>by obtain ⟨c0,c1⟩:=hSw.ky.cells;clear hSw;go_simp) ?_;go_frame;refine aH 14 (.pointer (some ⟨Be,0,none⟩)) rfl ?_;go_frame;refine dG 15 (.int .i64 e.aB) rfl (fun w hSw=>by obtain ⟨c0,c1⟩:=hSw.ky.cells;clear hSw;go_simp) ?_;go_frame;refine aH 16 (.int .i64 (e.aB+1)) rfl ?_;go_frame;refine dh 17 rfl fun K hK=>?_;go_simp
      refine (II _ aN.ks).mono ?_;rintro r w5 ⟨rfl,dT⟩;go_wp2_with fail
      refine hK.out _ _ (aN.later dT) (fun bK=>?_);clear aN dT;clear hK K;try go_frame
      refine aH 18 (.bool true) rfl ?_;go_frame;refine wpAnyH_done (by kernel_rfl) ?_ _;go_wp2_with fail
      go_ret;exact ⟨aj (by rw [fh (kS dA (C1 HE.out yb))]),HB.out.trans (bK.aK.mono HB.out.size)⟩
     | false=>
      rw [yb] at II;refine wp_region_held_drew (S:=fun W=>CS wr W B Be f e) (by kernel_rfl) dm (fun hHeld=>?_);refine dG 0 (.agg #[.int .i64 e.aB,.int .i64 e.bp]) rfl (fun w hSw=>by obtain ⟨c0,c1⟩:=hSw.ky.cells;clear hSw;go_simp) ?_;go_frame;refine dh 1 rfl fun K hK=>?_;go_simp
      refine (hg _).mono ?_;rintro r w3 ⟨rfl,rfl⟩;go_wp2_with fail
      refine hK.out _ _ (hHeld.later (aa _ _)) (fun aD=>?_);clear hHeld;clear hK K;try go_frame
      refine aH 2 (.bool false) rfl ?_;go_frame;refine aH 3 (.bool false) rfl ?_;go_frame;refine aH 4 (.pointer (some ⟨Be,0,none⟩)) rfl ?_;go_frame;refine dG 5 (.int .i64 e.aB) rfl (fun w hSw=>by obtain ⟨c0,c1⟩:=hSw.ky.cells;clear hSw;go_simp) ?_;go_frame;refine dh 6 rfl fun K hK=>?_;go_simp
      refine (ho _).mono ?_;rintro r w4 ⟨rfl,rfl⟩;go_wp2_with fail
      refine hK.out _ _ aD (fun aN=>?_);clear aD;clear hK K;try go_frame
      refine aH 7 (.bool false) rfl ?_;go_frame;refine aH 8 (.bool false) rfl ?_;go_frame;refine aH 9 (.bool false) rfl ?_;go_frame;refine aH 10 (.int .i64 (k:Int)) rfl ?_;go_frame;refine aH 11 (.slice (some ⟨B,0,none⟩) k 21) rfl ?_;go_frame;refine aH 12 (.pointer (some ⟨Be,0,none⟩)) rfl ?_;go_frame;refine dG 13 (.int .i64 e.aB) rfl (fun w hSw=>by obtain ⟨c0,c1⟩:=hSw.ky.cells;clear hSw;go_simp) ?_;go_frame;refine aH 14 (.pointer (some ⟨Be,0,none⟩)) rfl ?_;go_frame;refine dG 15 (.int .i64 e.aB) rfl (fun w hSw=>by obtain ⟨c0,c1⟩:=hSw.ky.cells;clear hSw;go_simp) ?_;go_frame;refine aH 16 (.int .i64 (e.aB+1)) rfl ?_;go_frame;refine dh 17 rfl fun K hK=>?_;go_simp
      refine (II _ aN.ks).mono ?_;rintro r w5 ⟨rfl,dT⟩;go_wp2_with fail
      refine hK.out _ _ (aN.later dT) (fun bK=>?_);clear aN dT;clear hK K;try go_frame
      refine aH 18 (.bool false) rfl ?_;go_frame;refine wpAnyH_done (by kernel_rfl) ?_ _;go_wp2_with fail
      go_roundw
      case rel=>
       refine ⟨k+1,by omega,by go_num,fE.out.trans (bK.aK.mono fE.out.size),fun m hm=>?_⟩;rcases Nat.lt_or_ge m k with h | h
       ·exact HF.out m h
       ·obtain rfl:m=k:=by omega
        exact C0 HE.out hgd how yb
      case measure=>simp [intOf];omega
  ·obtain rfl:k=21:=by omega
   clear hb hf;go_wp2_with fail
   go_ret;exact ⟨aj (by rw [kT (sr HF.out)]),HB.out⟩
theorem bj (w:World) (n:Nat):Below w.heap.size w (w.drewN n):=⟨rfl,rfl,rfl,Nat.le_refl _,fun _ _=>rfl⟩
theorem lH (r v:Nat) (hr:r<4294967296) (hv:v<32) (w:World):
  Calls prog 45 #[.int .u32 (r:Int),.int .i64 (v:Int)] w fun e w'=>e=.returned (.bool (r.testBit v))∧w'=w:=by
 have v0:(0:Int)≤(v:Int):=by omega
 have v1:(v:Int)<32:=by omega
 go_enter func45,ntmps45;go_wp2_with fail
 go_loopw [0,5] (fun x i wx=>∃k:Nat,k≤v∧i=.int .i64 (k:Int)∧x=.int .u32 ((r/2^k:Nat):Int)∧wx=w) (fun _ i _=>v - (intOf i).toNat)
 case atStart=>exact ⟨0,by omega,rfl,by simp,rfl⟩
 case round=>
  obtain ⟨k,hk,rfl,rfl,rfl⟩:=hrel;by_cases dA:k<v
  ·have k8:(k:Int)<(v:Int):=by omega
   have wI:r/2^(k+1)=r/2^k/2:=by rw [Nat.pow_succ,Nat.div_div_eq_div_mul]
   have hlt:r/2^k<4294967296:=Nat.lt_of_le_of_lt (Nat.div_le_self _ _) hr;obtain ⟨q,hq⟩:∃q,r/2^k=q:=⟨_,rfl⟩;rw [hq] at wI hlt ⊢;have HQ:Hid (r/2^(k+1)=q/2):=wI;clear hq wI;go_wp2_with fail
   go_roundw
   case rel=>exact ⟨k+1,by omega,by go_num,by rw [HQ.out];congr 1,by first | rfl | trivial⟩
   case measure=>simp [intOf];omega
  ·obtain rfl:k=v:=by omega
   have hd:decide ((k:Int)<(k:Int))=false:=by simp
   have ye:r.testBit k=decide (r/2^k%2=1):=Nat.testBit_eq_decide_div_mod_eq;have hlt:r/2^k<4294967296:=Nat.lt_of_le_of_lt (Nat.div_le_self _ _) hr;obtain ⟨q,hq⟩:∃q,r/2^k=q:=⟨_,rfl⟩;rw [hq] at ye hlt ⊢;have HB:Hid (r.testBit k=decide (q%2=1)):=ye;clear hq ye;go_wp2_with fail
   go_ret;refine ⟨ae ?_,rfl⟩;rw [HB.out,Bool.eq_iff_iff];simp;omega
theorem pA (r:Nat) (hr:r<4294967296) (w:World):
  Calls prog 83 #[.int .u32 (r:Int)] w fun e w'=>e=.returned (.int .i64 ((cu r 21:Nat):Int))∧w'=w:=by
 go_enter func83,ntmps83;go_wp2_with fail
 go_loopw [3,4] (fun x i wx=>∃k:Nat,k≤21∧i=.int .i64 (k:Int)∧x=.int .i64 ((cu r k:Nat):Int)∧wx=w) (fun _ i _=>21 - (intOf i).toNat)
 case atStart=>exact ⟨0,by omega,rfl,rfl,rfl⟩
 case round=>
  obtain ⟨k,hk,rfl,rfl,rfl⟩:=hrel;have hc:=tL r k;by_cases dA:k<21
  ·have k8:(k:Int)<21:=by omega
   have ED:=lH r k hr (by omega) wr;have hs:cu r (k+1)=cu r k+b1 r k:=rfl;unfold b1 at hs;obtain ⟨q,hq⟩:∃q,cu r k=q:=⟨_,rfl⟩;rw [hq] at hs hc ⊢;have HQ:Hid (cu r (k+1)=q+if r.testBit k then 1 else 0):=hs;clear hq hs
   cases hb:r.testBit k with
   | true=>
    rw [hb] at ED;go_wp2_with (go_at_call 45;refine ED.mono ?_;rintro e w' ⟨rfl,rfl⟩)
    go_roundw
    case rel=>exact ⟨k+1,by omega,by go_num,by rw [HQ.out,hb];go_num,by first | rfl | trivial⟩
    case measure=>simp [intOf];omega
   | false=>
    rw [hb] at ED;go_wp2_with (go_at_call 45;refine ED.mono ?_;rintro e w' ⟨rfl,rfl⟩)
    go_roundw
    case rel=>exact ⟨k+1,by omega,by go_num,by rw [HQ.out,hb];rfl,by first | rfl | trivial⟩
    case measure=>simp [intOf];omega
  ·obtain rfl:k=21:=by omega
   go_wp2_with fail
   go_ret;exact ⟨rfl,rfl⟩
set_option maxRecDepth 100000 in
theorem fy (f:Nat→Ky) (w:World):Calls prog 78 #[.agg (bF f)] w fun r w'=>r=.returned (.int .i64 (tj f))∧Below w.heap.size w w':=by
 have hn:=bq.new w f;have cA:=jK w f;go_enter func78,ntmps78;go_upto_region 1 with (fail)
 generalize w.alloc (.cells (bF f) 33)=w1 at *;obtain ⟨B,uj⟩:∃B,w.heap.size=B:=⟨_,rfl⟩;rw [uj] at hn ⊢;have dV:Hid (Below w.heap.size w w1):=cA;clear cA uj;obtain ⟨c,hc⟩:∃c,bF f=c:=⟨_,rfl⟩;rw [hc];clear hc;go_wp2_with fail
 go_loopw [3] (fun i wx=>∃k:Nat,k≤21∧i=.int .i64 (k:Int)∧Below w1.heap.size w1 wx∧∀j,j<k→y9 f j=true) (fun i _=>21 - (intOf i).toNat)
 case atStart=>exact ⟨0,by omega,rfl,Below.refl _ _,fun j hj=>by omega⟩
 case round=>
  obtain ⟨k,hk,rfl,hb,hf⟩:=hrel;have HB:Hid (Below w.heap.size w wr):=dV.out.trans (hb.mono dV.out.size);have fE:Hid (Below w1.heap.size w1 wr):=hb;have HF:Hid (∀j,j<k→y9 f j=true):=hf;have hR:=hn.later hb;clear hb hf;by_cases dA:k<21
  ·have k8:(k:Int)<21:=by omega
   have k0:(0:Int)≤(k:Int):=by omega
   obtain ⟨c0,c1⟩:=hR.cells k dA;have hg:=rX (f k).aB (f k).bp wr;obtain ⟨e,he⟩:∃e,f k=e:=⟨_,rfl⟩;rw [he] at hg c0 c1;have HE:Hid (f k=e):=he;clear he
   cases hgd:gd e.aB e.bp with
   | false=>
    rw [hgd] at hg;go_wp2_with (go_at_call 95;refine hg.mono ?_;rintro e w' ⟨rfl,rfl⟩)
    go_ret;exact ⟨aj (by rw [fh (kS dA (C3 HE.out hgd))]),HB.out.trans ((aa _ _).mono HB.out.size)⟩
   | true=>
    rw [hgd] at hg;have d0:=fun o=>bz c0 o
    cases how:decide (e.aB<32768) with
    | false=>
     have ac5:(32768:Int)≤e.aB:=by have:=of_decide_eq_false how;omega
     go_wp2_with (go_at_call 95;refine hg.mono ?_;rintro e w' ⟨rfl,rfl⟩)
     go_ret;exact ⟨aj (by rw [fh (kS dA (C2 HE.out how))]),HB.out.trans ((aa _ _).mono HB.out.size)⟩
    | true=>
     have ac5:¬(32768:Int)≤e.aB:=by have:=of_decide_eq_true how;omega
     go_wp2_with (go_at_call 95;refine hg.mono ?_;rintro e w' ⟨rfl,rfl⟩)
     have hb2:=aa wr (.cells #[.int .i64 e.aB,.int .i64 e.bp] 31);have EF:=hR.later hb2;have bm:Hid (Below w.heap.size w (wr.alloc (.cells #[.int .i64 e.aB,.int .i64 e.bp] 31))):=HB.out.trans (hb2.mono HB.out.size);have ab9:Hid (Below w1.heap.size w1 (wr.alloc (.cells #[.int .i64 e.aB,.int .i64 e.bp] 31))):=fE.out.trans (hb2.mono fE.out.size);clear hb2 hR c0 c1 d0 hg;generalize wr.alloc (.cells #[.int .i64 e.aB,.int .i64 e.bp] 31)=w2 at *;go_loopw [4] (fun i wx=>∃j:Nat,j≤k∧i=.int .i64 (j:Int)∧Below w2.heap.size w2 wx∧∀m,m<j→decide ((f m).aB=e.aB)=false) (fun i _=>k - (intOf i).toNat)
     case atStart=>exact ⟨0,by omega,rfl,Below.refl _ _,fun j hj=>by omega⟩
     case round=>
      obtain ⟨j,hj,rfl,hb,hf⟩:=hrel;have Vz:Hid (Below w2.heap.size w2 wr):=hb;have HG:Hid (∀m,m<j→decide ((f m).aB=e.aB)=false):=hf;have hR:=EF.later hb;clear hf hb;by_cases hjk:j<k
      ·have j1:(j:Int)<(k:Int):=by omega
       have j2:(0:Int)≤(j:Int):=by omega
       have j3:(j:Int)<21:=by omega
       obtain ⟨c0,_⟩:=hR.cells k dA;obtain ⟨d0,_⟩:=hR.cells j (by omega);rw [HE.out] at c0;obtain ⟨x,hx⟩:∃x,(f j).aB=x:=⟨_,rfl⟩;rw [hx] at d0;have HX:Hid ((f j).aB=x):=hx;clear hx hR;by_cases Me:x=e.aB
       ·have YF:(x==e.aB)=true:=by simp [Me]
        have HXE:Hid (x=e.aB):=Me;clear Me;go_upto_region 9 with (fail)
        go_quiet (fail)
        go_wp2_with fail
        go_ret;have wP:=bm.out.trans (Vz.out.mono bm.out.size);exact ⟨aj (by rw [fh (kS dA (C1 HE.out (ql hjk (by rw [qm,HX.out,HXE.out];simp))))]),wP.trans ((bj _ _).mono wP.size)⟩
       ·have YF:(x==e.aB)=false:=by simp [Me]
        go_upto_region 9 with (fail)
        go_quiet (fail)
        go_wp2_with fail
        go_roundw
        case rel=>
         refine ⟨j+1,by omega,by go_num,Vz.out.trans ((bj _ _).mono Vz.out.size),fun m hm=>?_⟩;rcases Nat.lt_or_ge m j with h | h
         ·exact HG.out m h
         ·obtain rfl:m=j:=by omega
          rw [HX.out];exact decide_eq_false Me
        case measure=>simp [intOf];omega
      ·obtain rfl:j=k:=by omega
       have j1:decide ((j:Int)<(j:Int))=false:=by simp
       go_wp2_with fail
       go_roundw
       case rel=>
        refine ⟨j+1,by omega,by go_num,ab9.out.trans (Vz.out.mono ab9.out.size),fun m hm=>?_⟩;rcases Nat.lt_or_ge m j with h | h
        ·exact HF.out m h
        ·obtain rfl:m=j:=by omega
         exact C0 HE.out hgd how (Au fun i hi=>by rw [qm];exact HG.out i hi)
       case measure=>simp [intOf];omega
  ·obtain rfl:k=21:=by omega
   go_wp2_with fail
   go_ret;exact ⟨aj (by rw [kT (sr HF.out)]),HB.out⟩
def xP (f:Nat→Ky) (x:Int) (n:Nat):Bool:=decide (n=0)||(decide (1≤x)&&(decide (x≤32768 - (n:Int))&& !Ex f 21 x (x+(n:Int))))
theorem UL (f:Nat→Ky) (r:Nat) (x:Int):wV f r x=xP f x (cu r 21):=rfl
set_option maxRecDepth 100000 in
theorem nM (f:Nat→Ky) (x:Int) (n:Nat) (hn:n≤21) (w:World):
  Calls prog 146 #[.agg (bF f),.int .i64 x,.int .i64 (n:Int)] w fun e w'=>e=.returned (.bool (xP f x n))∧Below w.heap.size w w':=by
 have BX:Hid (xP f x n=(decide (n=0)||(decide (1≤x)&&(decide (x≤32768 - (n:Int))&& !Ex f 21 x (x+(n:Int)))))):=rfl;have hR:=bq.new w f;have cA:=jK w f;go_enter func146,ntmps146;go_upto_region 1 with (fail)
 generalize w.alloc (.cells (bF f) 33)=w1 at *;obtain ⟨c,hc⟩:∃c,bF f=c:=⟨_,rfl⟩;rw [hc];clear hc;by_cases gZ:n=0
 ·subst gZ;go_wp2_with fail
  go_ret;exact ⟨ae (by rw [BX.out];rfl),cA⟩
 ·have h0:¬((n:Int)=0):=by omega
  have WI:((n:Int)==0)=false:=by simp;omega
  have HD:Hid (decide (n=0)=false):=decide_eq_false gZ;have Lf:IntKind.i64.wrap (32768 - (n:Int))=32768 - (n:Int):=bC _ (by omega) (by omega);by_cases h1:x<1
  ·have BZ:Hid (decide (1≤x)=false):=decide_eq_false (by omega);go_wp2_with fail
   go_ret;exact ⟨ae (by rw [BX.out,HD.out,BZ.out];rfl),cA⟩
  ·have BZ:Hid (decide (1≤x)=true):=decide_eq_true (by omega);by_cases h2:32768 - (n:Int)<x
   ·have xx:Hid (decide (x≤32768 - (n:Int))=false):=decide_eq_false (by omega);go_wp2_with fail
    go_ret;exact ⟨ae (by rw [BX.out,HD.out,BZ.out,xx.out];rfl),cA⟩
   ·have xx:Hid (decide (x≤32768 - (n:Int))=true):=decide_eq_true (by omega);have Ug:IntKind.i64.wrap (x+(n:Int))=x+(n:Int):=bC _ (by omega) (by omega);have II:=yX (B:=w.heap.size) (f:=f) 21 21 (by omega) x (x+(n:Int)) w1 hR;go_wp2_with (go_at_call 203;refine II.mono ?_;rintro e w2 ⟨rfl,hb2⟩)
    go_ret;exact ⟨ae (by rw [BX.out,HD.out,BZ.out,xx.out];rfl),cA.trans (hb2.mono cA.size)⟩
theorem X8:∀n:Fin 256,Lib.pop8 (n.val:Int)=((cu n.val 8:Nat):Int):=by decide+kernel
theorem Fy (n:Nat) (h:n<256):Lib.pop8 (n:Int)=((cu n 8:Nat):Int):=X8 ⟨n,h⟩
theorem DO {r s:Nat}:∀{k:Nat},(∀i,i<k→r.testBit i=s.testBit i)→cu r k=cu s k
 | 0,_=>rfl
 | k+1,h=>by
  simp only [cu];rw [DO fun i hi=>h i (by omega)];unfold b1;rw [h k (by omega)]
theorem A9 (r a:Nat):∀b,cu r (a+b)=cu r a+cu (r/2^a) b
 | 0=>by simp [cu]
 | b+1=>by
  rw [←Nat.add_assoc];simp only [cu];rw [A9 r a b]
  have:b1 r (a+b)=b1 (r/2^a) b:=by
   unfold b1;rw [←Nat.shiftRight_eq_div_pow,Nat.testBit_shiftRight]
  omega
theorem Jt (r:Nat):cu (r%256) 8=cu r 8:=DO fun i hi=>by
 rw [show 256=2^8 by decide,Nat.testBit_mod_two_pow];simp [hi]
theorem QV (r:Nat) (hr:r<2097152):cu r 21=cu (r/65536) 8+cu (r/256%256) 8+cu (r%256) 8:=by
 rw [show 21=8+13 by decide,A9,show 13=8+5 by decide,A9,Jt,Jt];have e1:r/2^8/2^8=r/65536:=by omega
 rw [e1,show 2^8=256 by decide]
 have e2:cu (r/65536) 8=cu (r/65536) 5:=by
  rw [show 8=5+3 by decide,A9,show r/65536/2^5=0 by omega,Js (r:=0) fun i _=>by simp];rfl
 omega
theorem G8 (v:Int) (h0:0≤v) (h1:v<4294967296):bits .and .u32 v 255=v%256:=by
 rw [u32_and _ _ (by omega) (by omega) (by omega) (by omega)];have:v.toNat&&& (255:Int).toNat=v.toNat%256:=Nat.and_two_pow_sub_one_eq_mod v.toNat 8;rw [this];omega
set_option maxRecDepth 100000 in
theorem vY (r:Nat) (hr:r<2097152) (w:World):
  Calls prog 147 #[.int .u32 (r:Int)] w fun e w'=>e=.returned (.int .i64 ((cu r 21:Nat):Int))∧Below w.heap.size w w':=by
 have hc:=QV r hr;have p1:=Fy (r/65536) (by omega);have p2:=Fy (r/256%256) (by omega);have p3:=Fy (r%256) (by omega);have p0:Lib.pop8 0=0:=by decide+kernel
 have l1:=tL (r/65536) 8;have l2:=tL (r/256%256) 8;have l3:=tL (r%256) 8;have s0:(r:Int)/16777216=0:=by omega
 have a1:bits .and .u32 ((r:Int)/65536) 255=((r/65536:Nat):Int):=by rw [G8 _ (by omega) (by omega)];omega
 have a2:bits .and .u32 ((r:Int)/256) 255=((r/256%256:Nat):Int):=by rw [G8 _ (by omega) (by omega)];omega
 have a3:bits .and .u32 (r:Int) 255=((r%256:Nat):Int):=by rw [G8 _ (by omega) (by omega)];omega
 have b1:r/65536<256:=by omega
 have b2:r/256%256<256:=by omega
 have b3:r%256<256:=by omega
 generalize r/65536=x1 at *;generalize r/256%256=x2 at *;generalize r%256=x3 at *;obtain ⟨q1,h1⟩:∃q,cu x1 8=q:=⟨_,rfl⟩;obtain ⟨q2,h2⟩:∃q,cu x2 8=q:=⟨_,rfl⟩;obtain ⟨q3,h3⟩:∃q,cu x3 8=q:=⟨_,rfl⟩;rw [h1] at hc p1 l1;rw [h2] at hc p2 l2;rw [h3] at hc p3 l3;rw [hc];clear h1 h2 h3 hc hr;have c1:(x1:Int)≤255:=by omega
 have c2:(x2:Int)≤255:=by omega
 have c3:(x3:Int)≤255:=by omega
 go_enter func147,ntmps147;go_upto_region 1 with (fail)
 go_quiet (fail)
 go_wp2_with fail
 go_ret;exact ⟨aj (by omega),bj _ _⟩
end Go.Proofs.YtanaapfobpgibaaGreatDoor.Rt
