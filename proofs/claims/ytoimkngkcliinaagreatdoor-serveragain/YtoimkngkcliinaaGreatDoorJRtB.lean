/- RtB, RtC, RtD, RtE, RtG, joined. -/
import Derived.Test.YtoimkngkcliinaaGreatDoorHd
import Derived.Test.YtoimkngkcliinaaGreatDoorJRtMath
import Derived.Deep.RegionHeld3
import Derived.Test.YtoimkngkcliinaaGreatDoorJKeyMath
import Derived.LoopTactic
import Derived.Laws.BitsAllLaws
import Derived.Lib.BitFns
namespace Go.Proofs.YtoimkngkcliinaaGreatDoor.Rt
open Go.RowKit
set_option linter.unusedVariables false
set_option linter.unusedSimpArgs false
/- What stands while Check looks at a key. -/
structure CS (w W:World) (B Be:Nat) (f:Nat→Ky) (e:Ky):Prop where
 ks:KsAt W B f
 ky:KyAt W Be e
 bel:Below w.heap.size w W
theorem CS.later {w W W':World} {B Be:Nat} {f:Nat→Ky} {e:Ky} (h:CS w W B Be f e) (hb:Below W.heap.size W W'):CS w W' B Be f e:=⟨h.ks.later hb,h.ky.later hb,h.bel.trans (hb.mono h.bel.size)⟩
theorem drew_below (w:World):Below w.heap.size w w.drew:=⟨rfl,rfl,rfl,Nat.le_refl _,fun _ _=>rfl⟩
theorem below_alloc (w:World) (o:Obj):Below w.heap.size w (w.alloc o):=(Below.refl _ w).alloc (Nat.le_refl _) _
theorem kok_bad1 {f:Nat→Ky} {k:Nat} {e:Ky} (he:f k=e) (h:gd e.bas e.stp=false):kok f k=false:=by unfold kok;rw [he,h];rfl
theorem kok_bad2 {f:Nat→Ky} {k:Nat} {e:Ky} (he:f k=e) (h:decide (e.bas<32768)=false):kok f k=false:=by unfold kok;rw [he,h,Bool.false_and,Bool.and_false]
theorem kok_bad3 {f:Nat→Ky} {k:Nat} {e:Ky} (he:f k=e) (h:nmd f k e.bas (e.bas+1)=true):kok f k=false:=by unfold kok;rw [he,h,Bool.not_true,Bool.and_false,Bool.and_false]
theorem kok_fine {f:Nat→Ky} {k:Nat} {e:Ky} (he:f k=e) (h1:gd e.bas e.stp=true) (h2:decide (e.bas<32768)=true) (h3:nmd f k e.bas (e.bas+1)=false):kok f k=true:=by unfold kok;rw [he,h1,h2,h3];rfl
theorem own_gd {e:Ky} (h:gd e.bas e.stp=true):own e.bas=decide (e.bas<32768):=by
 have:=(gd_iff.1 h).1;unfold own;rw [decide_eq_true this,Bool.true_and]
set_option maxRecDepth 100000 in
set_option maxHeartbeats 1000000 in
theorem check_any (f:Nat→Ky) (w:World):Calls Tryz.prog 169 #[.agg (kcs f)] w fun r w'=>r=.returned (.int .i64 (kchkE f))∧Below w.heap.size w w':=by
 have hn:=KsAt.new w f;have hB1:=alloc_ks w f;go_enter Tryz.func169,Tryz.ntmps169;go_upto_region 1 with (fail)
 generalize w.alloc (.cells (kcs f) 48)=w1 at *;refine wp_region_lit ?_;refine ldK hn rfl _ rfl rfl ?_;obtain ⟨B,hBB⟩:∃B,w.heap.size=B:=⟨_,rfl⟩;rw [hBB] at hn;obtain ⟨c,hc⟩:∃c,kcs f=c:=⟨_,rfl⟩;rw [hc];go_wp2_with fail
 go_loopw [6] (fun i wx=>∃k:Nat,k≤21∧i=.int .i64 (k:Int)∧Below w1.heap.size w1 wx∧∀j,j<k→kok f j=true) (fun i _=>21 - (intOf i).toNat)
 case atStart=>exact ⟨0,by omega,rfl,Below.refl _ _,fun j hj=>by omega⟩
 case round=>
  obtain ⟨k,hk,rfl,hb,hf⟩:=hrel;have HB:Hid (Below w.heap.size w wr):=hB1.trans (hb.mono hB1.size);have HBW:Hid (Below w1.heap.size w1 wr):=hb;have HF:Hid (∀j,j<k→kok f j=true):=hf;by_cases hk8:k<21
  ·have k8:(k:Int)<21:=by omega
   have k9:(k:Int)≤21:=by omega
   have hi:=idxK f k hk8;rw [hc] at hi;have hS:CS wr (wr.alloc (.cells #[.int .i64 (f k).bas,.int .i64 (f k).stp] 46)) B wr.heap.size f (f k):=⟨(hn.later hb).later (alloc_ky wr (f k)),KyAt.new _ _,alloc_ky wr (f k)⟩;obtain ⟨e,he⟩:∃e,f k=e:=⟨_,rfl⟩;rw [he] at hi hS;have HE:Hid (f k=e):=he;clear hc he hb hf;go_upto_region 4 with (fail)
   generalize wr.alloc (.cells #[.int .i64 e.bas,.int .i64 e.stp] 46)=w2 at *;obtain ⟨Be,hBe⟩:∃Be,wr.heap.size=Be:=⟨_,rfl⟩;rw [hBe] at hS ⊢;have HBe:Hid (wr.heap.size=Be):=hBe;have HBB:Hid (w.heap.size=B):=hBB;have hg:=good_any e.bas e.stp;have ho:=isOwn_any e.bas;have hnm:∀W,KsAt W B f→Calls Tryz.prog 226 #[.slice (some ⟨B,0,none⟩) k 21,.int .i64 e.bas,.int .i64 (e.bas+1)] W fun r w'=>r=.returned (.bool (nmd f k e.bas (e.bas+1)))∧Below W.heap.size W w':=fun W h=>named_any k 21 (by omega) e.bas (e.bas+1) W h
   have hS0:CS wr w2.drew B Be f e:=hS.later (drew_below _);clear hi hBe hBB hn
   cases hgd:gd e.bas e.stp with
   | false=>
    rw [hgd] at hg;refine wp_region_held_drew (S:=fun W=>CS wr W B Be f e) (by kernel_rfl) hS0 (fun hHeld=>?_);refine opY 0 (.agg #[.int .i64 e.bas,.int .i64 e.stp]) rfl (fun w hSw=>by obtain ⟨c0,c1⟩:=hSw.ky.cells;clear hSw;go_simp) ?_;go_frame;refine rdy 1 rfl fun K hK=>?_;go_simp
    refine (hg _).mono ?_;rintro r w3 ⟨rfl,rfl⟩;go_wp2_with fail
    refine hK.out _ _ (hHeld.later (below_alloc _ _)) (fun hHeld2=>?_);clear hHeld;clear hK K;try go_frame
    refine opX 2 (.bool true) rfl ?_;go_frame;refine opX 3 (.bool true) rfl ?_;go_frame;refine opN 4 rfl ?_;go_frame;refine opN 5 rfl ?_;go_frame;refine opN 6 rfl ?_;go_frame;refine opN 7 rfl ?_;go_frame;refine opX 8 (.bool true) rfl ?_;go_frame;refine opX 9 (.bool true) rfl ?_;go_frame;refine opN 10 rfl ?_;go_frame;refine opN 11 rfl ?_;go_frame;refine opN 12 rfl ?_;go_frame;refine opN 13 rfl ?_;go_frame;refine opN 14 rfl ?_;go_frame;refine opN 15 rfl ?_;go_frame;refine opN 16 rfl ?_;go_frame;refine opN 17 rfl ?_;go_frame;refine opX 18 (.bool true) rfl ?_;go_frame;refine wpAnyH_done (by kernel_rfl) ?_ _;go_wp2_with fail
    go_ret;exact ⟨ret_int (by rw [kchkE_ff (kchk_bad hk8 (kok_bad1 HE.out hgd))]),HB.out.trans (hHeld2.bel.mono HB.out.size)⟩
   | true=>
    rw [hgd] at hg;rw [own_gd hgd] at ho
    cases how:decide (e.bas<32768) with
    | false=>
     rw [how] at ho;refine wp_region_held_drew (S:=fun W=>CS wr W B Be f e) (by kernel_rfl) hS0 (fun hHeld=>?_);refine opY 0 (.agg #[.int .i64 e.bas,.int .i64 e.stp]) rfl (fun w hSw=>by obtain ⟨c0,c1⟩:=hSw.ky.cells;clear hSw;go_simp) ?_;go_frame;refine rdy 1 rfl fun K hK=>?_;go_simp
     refine (hg _).mono ?_;rintro r w3 ⟨rfl,rfl⟩;go_wp2_with fail
     refine hK.out _ _ (hHeld.later (below_alloc _ _)) (fun hHeld2=>?_);clear hHeld;clear hK K;try go_frame
     refine opX 2 (.bool false) rfl ?_;go_frame;refine opX 3 (.bool false) rfl ?_;go_frame;refine opX 4 (.pointer (some ⟨Be,0,none⟩)) rfl ?_;go_frame;refine opY 5 (.int .i64 e.bas) rfl (fun w hSw=>by obtain ⟨c0,c1⟩:=hSw.ky.cells;clear hSw;go_simp) ?_;go_frame;refine rdy 6 rfl fun K hK=>?_;go_simp
     refine (ho _).mono ?_;rintro r w4 ⟨rfl,rfl⟩;go_wp2_with fail
     refine hK.out _ _ hHeld2 (fun hHeld3=>?_);clear hHeld2;clear hK K;try go_frame
     refine opX 7 (.bool true) rfl ?_;go_frame;refine opX 8 (.bool true) rfl ?_;go_frame;refine opX 9 (.bool true) rfl ?_;go_frame;refine opN 10 rfl ?_;go_frame;refine opN 11 rfl ?_;go_frame;refine opN 12 rfl ?_;go_frame;refine opN 13 rfl ?_;go_frame;refine opN 14 rfl ?_;go_frame;refine opN 15 rfl ?_;go_frame;refine opN 16 rfl ?_;go_frame;refine opN 17 rfl ?_;go_frame;refine opX 18 (.bool true) rfl ?_;go_frame;refine wpAnyH_done (by kernel_rfl) ?_ _;go_wp2_with fail
     go_ret;exact ⟨ret_int (by rw [kchkE_ff (kchk_bad hk8 (kok_bad2 HE.out how))]),HB.out.trans (hHeld3.bel.mono HB.out.size)⟩
    | true=>
     rw [how] at ho;have hwr:IntKind.i64.wrap (e.bas+1)=e.bas+1:=i64_fit _ (by have:=(gd_iff.1 hgd).1;omega) (by have:=of_decide_eq_true how;omega);have i1:(0:Int)≤(k:Int):=by omega
     cases hnn:nmd f k e.bas (e.bas+1) with
     | true=>
      rw [hnn] at hnm;refine wp_region_held_drew (S:=fun W=>CS wr W B Be f e) (by kernel_rfl) hS0 (fun hHeld=>?_);refine opY 0 (.agg #[.int .i64 e.bas,.int .i64 e.stp]) rfl (fun w hSw=>by obtain ⟨c0,c1⟩:=hSw.ky.cells;clear hSw;go_simp) ?_;go_frame;refine rdy 1 rfl fun K hK=>?_;go_simp
      refine (hg _).mono ?_;rintro r w3 ⟨rfl,rfl⟩;go_wp2_with fail
      refine hK.out _ _ (hHeld.later (below_alloc _ _)) (fun hHeld2=>?_);clear hHeld;clear hK K;try go_frame
      refine opX 2 (.bool false) rfl ?_;go_frame;refine opX 3 (.bool false) rfl ?_;go_frame;refine opX 4 (.pointer (some ⟨Be,0,none⟩)) rfl ?_;go_frame;refine opY 5 (.int .i64 e.bas) rfl (fun w hSw=>by obtain ⟨c0,c1⟩:=hSw.ky.cells;clear hSw;go_simp) ?_;go_frame;refine rdy 6 rfl fun K hK=>?_;go_simp
      refine (ho _).mono ?_;rintro r w4 ⟨rfl,rfl⟩;go_wp2_with fail
      refine hK.out _ _ hHeld2 (fun hHeld3=>?_);clear hHeld2;clear hK K;try go_frame
      refine opX 7 (.bool false) rfl ?_;go_frame;refine opX 8 (.bool false) rfl ?_;go_frame;refine opX 9 (.bool false) rfl ?_;go_frame;refine opX 10 (.int .i64 (k:Int)) rfl ?_;go_frame;refine opX 11 (.slice (some ⟨B,0,none⟩) k 21) rfl ?_;go_frame;refine opX 12 (.pointer (some ⟨Be,0,none⟩)) rfl ?_;go_frame;refine opY 13 (.int .i64 e.bas) rfl (fun w hSw=>by obtain ⟨c0,c1⟩:=hSw.ky.cells;clear hSw;go_simp) ?_;go_frame;refine opX 14 (.pointer (some ⟨Be,0,none⟩)) rfl ?_;go_frame;refine opY 15 (.int .i64 e.bas) rfl (fun w hSw=>by obtain ⟨c0,c1⟩:=hSw.ky.cells;clear hSw;go_simp) ?_;go_frame;refine opX 16 (.int .i64 (e.bas+1)) rfl ?_;go_frame;refine rdy 17 rfl fun K hK=>?_;go_simp
      refine (hnm _ hHeld3.ks).mono ?_;rintro r w5 ⟨rfl,hb5⟩;go_wp2_with fail
      refine hK.out _ _ (hHeld3.later hb5) (fun hHeld4=>?_);clear hHeld3 hb5;clear hK K;try go_frame
      refine opX 18 (.bool true) rfl ?_;go_frame;refine wpAnyH_done (by kernel_rfl) ?_ _;go_wp2_with fail
      go_ret;exact ⟨ret_int (by rw [kchkE_ff (kchk_bad hk8 (kok_bad3 HE.out hnn))]),HB.out.trans (hHeld4.bel.mono HB.out.size)⟩
     | false=>
      rw [hnn] at hnm;refine wp_region_held_drew (S:=fun W=>CS wr W B Be f e) (by kernel_rfl) hS0 (fun hHeld=>?_);refine opY 0 (.agg #[.int .i64 e.bas,.int .i64 e.stp]) rfl (fun w hSw=>by obtain ⟨c0,c1⟩:=hSw.ky.cells;clear hSw;go_simp) ?_;go_frame;refine rdy 1 rfl fun K hK=>?_;go_simp
      refine (hg _).mono ?_;rintro r w3 ⟨rfl,rfl⟩;go_wp2_with fail
      refine hK.out _ _ (hHeld.later (below_alloc _ _)) (fun hHeld2=>?_);clear hHeld;clear hK K;try go_frame
      refine opX 2 (.bool false) rfl ?_;go_frame;refine opX 3 (.bool false) rfl ?_;go_frame;refine opX 4 (.pointer (some ⟨Be,0,none⟩)) rfl ?_;go_frame;refine opY 5 (.int .i64 e.bas) rfl (fun w hSw=>by obtain ⟨c0,c1⟩:=hSw.ky.cells;clear hSw;go_simp) ?_;go_frame;refine rdy 6 rfl fun K hK=>?_;go_simp
      refine (ho _).mono ?_;rintro r w4 ⟨rfl,rfl⟩;go_wp2_with fail
      refine hK.out _ _ hHeld2 (fun hHeld3=>?_);clear hHeld2;clear hK K;try go_frame
      refine opX 7 (.bool false) rfl ?_;go_frame;refine opX 8 (.bool false) rfl ?_;go_frame;refine opX 9 (.bool false) rfl ?_;go_frame;refine opX 10 (.int .i64 (k:Int)) rfl ?_;go_frame;refine opX 11 (.slice (some ⟨B,0,none⟩) k 21) rfl ?_;go_frame;refine opX 12 (.pointer (some ⟨Be,0,none⟩)) rfl ?_;go_frame;refine opY 13 (.int .i64 e.bas) rfl (fun w hSw=>by obtain ⟨c0,c1⟩:=hSw.ky.cells;clear hSw;go_simp) ?_;go_frame;refine opX 14 (.pointer (some ⟨Be,0,none⟩)) rfl ?_;go_frame;refine opY 15 (.int .i64 e.bas) rfl (fun w hSw=>by obtain ⟨c0,c1⟩:=hSw.ky.cells;clear hSw;go_simp) ?_;go_frame;refine opX 16 (.int .i64 (e.bas+1)) rfl ?_;go_frame;refine rdy 17 rfl fun K hK=>?_;go_simp
      refine (hnm _ hHeld3.ks).mono ?_;rintro r w5 ⟨rfl,hb5⟩;go_wp2_with fail
      refine hK.out _ _ (hHeld3.later hb5) (fun hHeld4=>?_);clear hHeld3 hb5;clear hK K;try go_frame
      refine opX 18 (.bool false) rfl ?_;go_frame;refine wpAnyH_done (by kernel_rfl) ?_ _;go_wp2_with fail
      go_roundw
      case rel=>
       refine ⟨k+1,by omega,by go_num,HBW.out.trans (hHeld4.bel.mono HBW.out.size),fun m hm=>?_⟩;rcases Nat.lt_or_ge m k with h | h
       ·exact HF.out m h
       ·obtain rfl:m=k:=by omega
        exact kok_fine HE.out hgd how hnn
      case measure=>simp [intOf];omega
  ·obtain rfl:k=21:=by omega
   clear hb hf;go_wp2_with fail
   go_ret;exact ⟨ret_int (by rw [kchkE_tt (kchk_good HF.out)]),HB.out⟩
theorem dn_below (w:World) (n:Nat):Below w.heap.size w (w.drewN n):=⟨rfl,rfl,rfl,Nat.le_refl _,fun _ _=>rfl⟩
def fre (f:Nat→Ky) (x:Int) (n:Nat):Bool:=decide (n=0)||(decide (1≤x)&&(decide (x≤32768 - (n:Int))&& !nmd f 21 x (x+(n:Int))))
theorem frk_fre (f:Nat→Ky) (r:Nat) (x:Int):frk f r x=fre f x (cu r 21):=rfl
set_option maxRecDepth 100000 in
set_option maxHeartbeats 1000000 in
theorem areFree_any (f:Nat→Ky) (x:Int) (n:Nat) (hn:n≤21) (w:World):
  Calls Tryz.prog 253 #[.agg (kcs f),.int .i64 x,.int .i64 (n:Int)] w fun e w'=>e=.returned (.bool (fre f x n))∧Below w.heap.size w w':=by
 have HFR:Hid (fre f x n=(decide (n=0)||(decide (1≤x)&&(decide (x≤32768 - (n:Int))&& !nmd f 21 x (x+(n:Int)))))):=rfl;have hR:=KsAt.new w f;have hB1:=alloc_ks w f;go_enter Tryz.func253,Tryz.ntmps253;go_upto_region 1 with (fail)
 generalize w.alloc (.cells (kcs f) 48)=w1 at *;obtain ⟨c,hc⟩:∃c,kcs f=c:=⟨_,rfl⟩;rw [hc];clear hc;by_cases hn0:n=0
 ·subst hn0;go_wp2_with fail
  go_ret;exact ⟨ret_bool (by rw [HFR.out];rfl),hB1⟩
 ·have h0:¬((n:Int)=0):=by omega
  have h0':((n:Int)==0)=false:=by simp;omega
  have HD:Hid (decide (n=0)=false):=decide_eq_false hn0;have hsub:IntKind.i64.wrap (32768 - (n:Int))=32768 - (n:Int):=i64_fit _ (by omega) (by omega);by_cases h1:x<1
  ·have HD1:Hid (decide (1≤x)=false):=decide_eq_false (by omega);go_wp2_with fail
   go_ret;exact ⟨ret_bool (by rw [HFR.out,HD.out,HD1.out];rfl),hB1⟩
  ·have HD1:Hid (decide (1≤x)=true):=decide_eq_true (by omega);by_cases h2:32768 - (n:Int)<x
   ·have HD2:Hid (decide (x≤32768 - (n:Int))=false):=decide_eq_false (by omega);go_wp2_with fail
    go_ret;exact ⟨ret_bool (by rw [HFR.out,HD.out,HD1.out,HD2.out];rfl),hB1⟩
   ·have HD2:Hid (decide (x≤32768 - (n:Int))=true):=decide_eq_true (by omega);have hsum:IntKind.i64.wrap (x+(n:Int))=x+(n:Int):=i64_fit _ (by omega) (by omega);have hnm:=named_any (B:=w.heap.size) (f:=f) 21 21 (by omega) x (x+(n:Int)) w1 hR;go_wp2_with (go_at_call 226;refine hnm.mono ?_;rintro e w2 ⟨rfl,hb2⟩)
    go_ret;exact ⟨ret_bool (by rw [HFR.out,HD.out,HD1.out,HD2.out];rfl),hB1.trans (hb2.mono hB1.size)⟩
theorem pop_cu:∀n:Fin 256,Lib.pop8 (n.val:Int)=((cu n.val 8:Nat):Int):=by decide+kernel
theorem pop_at (n:Nat) (h:n<256):Lib.pop8 (n:Int)=((cu n 8:Nat):Int):=pop_cu ⟨n,h⟩
theorem cu_congr {r s:Nat}:∀{k:Nat},(∀i,i<k→r.testBit i=s.testBit i)→cu r k=cu s k
 | 0,_=>rfl
 | k+1,h=>by
  simp only [cu];rw [cu_congr fun i hi=>h i (by omega)];unfold b1;rw [h k (by omega)]
theorem cu_add (r a:Nat):∀b,cu r (a+b)=cu r a+cu (r/2^a) b
 | 0=>by simp [cu]
 | b+1=>by
  rw [←Nat.add_assoc];simp only [cu];rw [cu_add r a b]
  have:b1 r (a+b)=b1 (r/2^a) b:=by
   unfold b1;rw [←Nat.shiftRight_eq_div_pow,Nat.testBit_shiftRight]
  omega
theorem cu_mod8 (r:Nat):cu (r%256) 8=cu r 8:=cu_congr fun i hi=>by
 rw [show 256=2^8 by decide,Nat.testBit_mod_two_pow];simp [hi]
theorem cu_parts (r:Nat) (hr:r<2097152):cu r 21=cu (r/65536) 8+cu (r/256%256) 8+cu (r%256) 8:=by
 rw [show 21=8+13 by decide,cu_add,show 13=8+5 by decide,cu_add,cu_mod8,cu_mod8];have e1:r/2^8/2^8=r/65536:=by omega
 rw [e1,show 2^8=256 by decide]
 have e2:cu (r/65536) 8=cu (r/65536) 5:=by
  rw [show 8=5+3 by decide,cu_add,show r/65536/2^5=0 by omega,cu_none (r:=0) fun i _=>by simp];rfl
 omega
theorem and255 (v:Int) (h0:0≤v) (h1:v<4294967296):bits .and .u32 v 255=v%256:=by
 rw [u32_and _ _ (by omega) (by omega) (by omega) (by omega)];have:v.toNat&&& (255:Int).toNat=v.toNat%256:=Nat.and_two_pow_sub_one_eq_mod v.toNat 8;rw [this];omega
set_option maxRecDepth 100000 in
set_option maxHeartbeats 1000000 in
theorem ones_any (r:Nat) (hr:r<2097152) (w:World):
  Calls Tryz.prog 254 #[.int .u32 (r:Int)] w fun e w'=>e=.returned (.int .i64 ((cu r 21:Nat):Int))∧Below w.heap.size w w':=by
 have hc:=cu_parts r hr;have p1:=pop_at (r/65536) (by omega);have p2:=pop_at (r/256%256) (by omega);have p3:=pop_at (r%256) (by omega);have p0:Lib.pop8 0=0:=by decide+kernel
 have l1:=cu_le (r/65536) 8;have l2:=cu_le (r/256%256) 8;have l3:=cu_le (r%256) 8;have s0:(r:Int)/16777216=0:=by omega
 have a1:bits .and .u32 ((r:Int)/65536) 255=((r/65536:Nat):Int):=by rw [and255 _ (by omega) (by omega)];omega
 have a2:bits .and .u32 ((r:Int)/256) 255=((r/256%256:Nat):Int):=by rw [and255 _ (by omega) (by omega)];omega
 have a3:bits .and .u32 (r:Int) 255=((r%256:Nat):Int):=by rw [and255 _ (by omega) (by omega)];omega
 have b1:r/65536<256:=by omega
 have b2:r/256%256<256:=by omega
 have b3:r%256<256:=by omega
 generalize r/65536=x1 at *;generalize r/256%256=x2 at *;generalize r%256=x3 at *;obtain ⟨q1,h1⟩:∃q,cu x1 8=q:=⟨_,rfl⟩;obtain ⟨q2,h2⟩:∃q,cu x2 8=q:=⟨_,rfl⟩;obtain ⟨q3,h3⟩:∃q,cu x3 8=q:=⟨_,rfl⟩;rw [h1] at hc p1 l1;rw [h2] at hc p2 l2;rw [h3] at hc p3 l3;rw [hc];clear h1 h2 h3 hc hr;have c1:(x1:Int)≤255:=by omega
 have c2:(x2:Int)≤255:=by omega
 have c3:(x3:Int)≤255:=by omega
 go_enter Tryz.func254,Tryz.ntmps254;go_upto_region 1 with (fail)
 go_quiet (fail)
 go_wp2_with fail
 go_ret;exact ⟨ret_int (by omega),dn_below _ _⟩
theorem zero42':Value.agg #[Value.int .i64 0,Value.int .i64 0,Value.int .i64 0,Value.int .i64 0,Value.int .i64 0,Value.int .i64 0,Value.int .i64 0,Value.int .i64 0,Value.int .i64 0,Value.int .i64 0,Value.int .i64 0,Value.int .i64 0,Value.int .i64 0,Value.int .i64 0,Value.int .i64 0,Value.int .i64 0,Value.int .i64 0,Value.int .i64 0,Value.int .i64 0,Value.int .i64 0,Value.int .i64 0,Value.int .i64 0,Value.int .i64 0,Value.int .i64 0,Value.int .i64 0,Value.int .i64 0,Value.int .i64 0,Value.int .i64 0,Value.int .i64 0,Value.int .i64 0,Value.int .i64 0,Value.int .i64 0,Value.int .i64 0,Value.int .i64 0,Value.int .i64 0,Value.int .i64 0,Value.int .i64 0,Value.int .i64 0,Value.int .i64 0,Value.int .i64 0,Value.int .i64 0,Value.int .i64 0]=.agg (kcs fun _=>zK):=by rw [zero42]
theorem ldK_run {w:World} {B:Nat} {f:Nat→Ky} (h:KsAt w B f):(Instr.loadAt 48 (.pointer (some ⟨B,0,none⟩))).run Tryz.prog w=.ok (.agg (kcs f)) w:=by
 simp only [Instr.loadAt,Instr.sureAddr,Sem.run_bind,Sem.run_pure,Result.andThen];exact run_loadVar_row w B _ _ _ _ _ h Tryz.underlying48 rfl (by rw [kcs_size];exact infoK)
theorem ldK_exec {w:World} {B:Nat} {f:Nat→Ky} (h:KsAt w B f) {a:Act} {o:Oper} {x:Operand} (ho:o.op=.load 48 x) (hx:a.eval x=.pointer (some ⟨B,0,none⟩)):(execOp a.eval o).run Tryz.prog w=.ok (.value (.agg (kcs f))) w:=by
 have:=ldK_run h;simp [execOp,ho,hx,this,Sem.run_bind,Result.andThen]
theorem results_ks3 {fn:Func} {p t u:Tmp} (hf:fn.results=#[.cell p 48,.tmp t,.tmp u]) (tmps:Array Value) (W:World) (B:Nat) (f:Nat→Ky) (hp:tmps[p]? =some (.pointer (some ⟨B,0,none⟩))) (hb:KsAt W B f):
  (results fn tmps).run Tryz.prog W=.ok (.tuple #[.agg (kcs f),tmps.getD t undef,tmps.getD u undef]) W:=by
 have h:=run_loadVar_row W B _ 48 _ _ _ hb Tryz.underlying48 rfl (by rw [kcs_size];exact infoK);simp [results,hf,hp,asAddr,h]
/- What stands while Turn goes. -/
structure TS (w W:World) (f:Nat→Ky):Prop where
 ks:KsAt W w.heap.size f
 ze:KsAt W (w.heap.size+1) (fun _=>zK)
 bel:Below w.heap.size w W
theorem TS.later {w W W':World} {f:Nat→Ky} (h:TS w W f) (hb:Below W.heap.size W W'):TS w W' f:=⟨h.ks.later hb,h.ze.later hb,h.bel.trans (hb.mono h.bel.size)⟩
theorem TS.new (w:World) (f:Nat→Ky):TS w ((w.alloc (.cells (kcs f) 48)).alloc (.cells (kcs fun _=>zK) 48)) f:=by
 have b2:=alloc_ks (w.alloc (.cells (kcs f) 48)) (fun _=>zK);have h2:=KsAt.new (w.alloc (.cells (kcs f) 48)) (fun _=>zK);rw [World.size_alloc] at h2;exact ⟨(KsAt.new w f).later b2,h2,(alloc_ks w f).trans (b2.mono (by simp))⟩
structure TL (w W:World) (f:Nat→Ky) (B:Nat) (g:Nat→Ky):Prop where
 ts:TS w W f
 nx:KsAt W B g
 far:w.heap.size+2≤B
theorem TL.later {w W W':World} {f g:Nat→Ky} {B:Nat} (h:TL w W f B g) (hb:Below W.heap.size W W'):TL w W' f B g:=⟨h.ts.later hb,h.nx.later hb,h.far⟩
theorem TL.set {w W:World} {f g:Nat→Ky} {B:Nat} (h:TL w W f B g) (k:Nat) (hk:k<21) (a b:Int):TL w ((W.setCell ⟨B,k * 2,none⟩ (.int .i64 a)).setCell ⟨B,k * 2+1,none⟩ (.int .i64 b)) f B (kup g k ⟨a,b⟩):=by
 have hf:=h.far;exact ⟨⟨(set2_other (by omega) _ _ _ _).trans h.ts.ks,(set2_other (by omega) _ _ _ _).trans h.ts.ze,set2_below h.ts.bel (by omega) _ _ _ _⟩,h.nx.set2 k hk a b,hf⟩
/- What Turn answers. -/
def TurnA (f:Nat→Ky) (r:Nat) (n:Int):Ending:=.returned (.tuple #[.agg (kcs (trA f r n)),.int .i64 (trN f r n),.int .i64 (trE f r n)])
theorem TurnA.no {f:Nat→Ky} {r:Nat} {n x:Int} (h:trE f r n=x) (hx:x≠0):Ending.returned (.tuple #[.agg (kcs fun _=>zK),.int .i64 0,.int .i64 x])=TurnA f r n:=by
 unfold TurnA trA trN;rw [h,if_neg hx,if_neg hx]
theorem TurnA.yes {f:Nat→Ky} {r:Nat} {n:Int} (h:trE f r n=0):Ending.returned (.tuple #[.agg (kcs (trK f r n)),.int .i64 (n+((cu r 21:Nat):Int)),.int .i64 0])=TurnA f r n:=by
 unfold TurnA trA trN;rw [h,if_pos rfl,if_pos rfl]
theorem and1 (r v:Nat) (hr:r<4294967296):bits .and .u32 ((r:Int)/2^v) 1=if r.testBit v then 1 else 0:=by
 have e:(r:Int)/2^v=((r/2^v:Nat):Int):=by simp
 have hlt:r/2^v<4294967296:=Nat.lt_of_le_of_lt (Nat.div_le_self _ _) hr;generalize hx:r/2^v=x at *;rw [e,u32_and _ _ (by omega) (by omega) (by omega) (by omega)]
 have h2:((x:Int)).toNat&&& (1:Int).toNat=x%2:=by
  rw [Int.toNat_natCast];exact Nat.and_one_is_mod _
 rw [h2,Nat.testBit_eq_decide_div_mod_eq,hx];rcases Nat.mod_two_eq_zero_or_one x with h | h <;> simp [h]
set_option maxRecDepth 100000 in
set_option maxHeartbeats 2000000 in
theorem turn_any (f:Nat→Ky) (r:Nat) (hr:r<4294967296) (n:Int) (w:World):
  Calls Tryz.prog 192 #[.agg (kcs f),.int .u32 (r:Int),.int .i64 n] w fun e w'=>e=TurnA f r n∧Below w.heap.size w w':=by
 have hT0:=TS.new w f;go_enter Tryz.func192,Tryz.ntmps192;go_upto_region 1 with (fail)
 rw [zero42];generalize (w.alloc (.cells (kcs f) 48)).alloc (.cells (kcs fun _=>zK) 48)=w1 at *;refine wp_region_lit ?_;refine ldK hT0.ks rfl _ rfl rfl ?_;have hck:=check_any f w1;obtain ⟨cf,hcf⟩:∃cf,kcs f=cf:=⟨_,rfl⟩;rw [hcf] at hck ⊢;clear hcf;go_wp2_with fail
 refine hck.mono ?_;rintro e w2 ⟨rfl,hb2⟩;have hT2:=hT0.later hb2;clear hck hb2 hT0
 cases hkc:kchk f with
 | false=>
  rw [kchkE_ff hkc];go_wp2_with (refine stK (g:=fun _=>zK) hT2.ze rfl _ _ rfl rfl zero42' ?_)
  refine bodyPost_ret (results_ks3 (p:=6) (t:=7) (u:=8) rfl _ _ (w.heap.size+1) (fun _=>zK) rfl (hT2.ze.row _)) rfl ?_;exact ⟨TurnA.no (trE_wrong hkc) (by decide),setRow_below (by omega) hT2.bel _⟩
 | true=>
  rw [kchkE_tt hkc];by_cases hr2:r<2097152
  ·have hs:(r:Int)/2097152=0:=by omega
   have h1:=ones_any r hr2;have h2:=areFree_any f n (cu r 21) (cu_le _ _);rw [←frk_fre] at h2;have HCU:Hid (cu r 21≤21):=cu_le _ _;obtain ⟨q,hq⟩:∃q,cu r 21=q:=⟨_,rfl⟩;rw [hq] at h1 h2;have HQ:Hid (cu r 21=q):=hq;clear hq;go_upto_region 6 with (fail)
   have hS0:TS w w2.drew f:=hT2.later (drew_below _);clear hs
   cases hfk:frk f r n with
   | false=>
    rw [hfk] at h2;refine wp_region_held_drew (S:=fun W=>TS w W f) (by kernel_rfl) hS0 (fun hHeld=>?_);refine opY 0 (.agg (kcs f)) rfl (fun w hSw=>ldK_exec hSw.ks rfl rfl) ?_;go_frame;refine opX 1 (.int .i64 n) rfl ?_;go_frame;refine opX 2 (.int .u32 (r:Int)) rfl ?_;go_frame;refine rdy 3 rfl fun K hK=>?_;go_simp
    refine (h1 _).mono ?_;rintro e w3 ⟨rfl,hb3⟩;go_wp2_with fail
    refine hK.out _ _ (hHeld.later hb3) (fun hHeld2=>?_);clear hHeld hb3;clear hK K;try go_frame
    refine rdy 4 rfl fun K hK=>?_;go_simp
    refine (h2 _).mono ?_;rintro e w4 ⟨rfl,hb4⟩;go_wp2_with fail
    refine hK.out _ _ (hHeld2.later hb4) (fun hHeld3=>?_);clear hHeld2 hb4;clear hK K;try go_frame
    refine opX 5 (.bool true) rfl ?_;go_frame;refine wpAnyH_done (by kernel_rfl) ?_ _;go_wp2_with (refine stK (g:=fun _=>zK) hHeld3.ze rfl _ _ rfl rfl zero42' ?_)
    refine bodyPost_ret (results_ks3 (p:=6) (t:=7) (u:=8) rfl _ _ (w.heap.size+1) (fun _=>zK) rfl (hHeld3.ze.row _)) rfl ?_;exact ⟨TurnA.no (trE_key hkc hr2 hfk) (by decide),setRow_below (by omega) hHeld3.bel _⟩
   | true=>
    rw [hfk] at h2;refine wp_region_held_drew (S:=fun W=>TS w W f) (by kernel_rfl) hS0 (fun hHeld=>?_);refine opY 0 (.agg (kcs f)) rfl (fun w hSw=>ldK_exec hSw.ks rfl rfl) ?_;go_frame;refine opX 1 (.int .i64 n) rfl ?_;go_frame;refine opX 2 (.int .u32 (r:Int)) rfl ?_;go_frame;refine rdy 3 rfl fun K hK=>?_;go_simp
    refine (h1 _).mono ?_;rintro e w3 ⟨rfl,hb3⟩;go_wp2_with fail
    refine hK.out _ _ (hHeld.later hb3) (fun hHeld2=>?_);clear hHeld hb3;clear hK K;try go_frame
    refine rdy 4 rfl fun K hK=>?_;go_simp
    refine (h2 _).mono ?_;rintro e w4 ⟨rfl,hb4⟩;go_wp2_with fail
    refine hK.out _ _ (hHeld2.later hb4) (fun hHeld3=>?_);clear hHeld2 hb4;clear hK K;try go_frame
    refine opX 5 (.bool false) rfl ?_;go_frame;refine wpAnyH_done (by kernel_rfl) ?_ _;clear h1 h2 hS0 hT2;go_upto_region 9 with (fail)
    rw [zero42];have hL5:TL w (w4.alloc (.cells (kcs fun _=>zK) 48)) f w4.heap.size (trS (fun _=>zK) f r n 0):=⟨hHeld3.later (alloc_ks _ _),(KsAt.new _ _).congr (trS_zero _ _ _ _).symm,hHeld3.ze.lt⟩;clear hHeld3;generalize w4.alloc (.cells (kcs fun _=>zK) 48)=w6 at *;generalize w4.heap.size=Bn at *;have HL5:Hid (TL w w6 f Bn (trS (fun _=>zK) f r n 0)):=hL5;clear hL5;go_wp2_with fail
    go_loopw [2,11] (fun x i wx=>∃j:Nat,j≤21∧i=.int .i64 (20 - (j:Int))∧x=.int .i64 (n+((cd r j:Nat):Int))∧TL w wx f Bn (trS (fun _=>zK) f r n j)∧∀m,m<j→skk f r (20 - m)=false) (fun _ i _=>(intOf i+1).toNat)
    case atStart=>exact ⟨0,by omega,rfl,by simp [cd],HL5.out,fun m hm=>by omega⟩
    case round=>
     obtain ⟨j,hj,rfl,rfl,hL,hsk⟩:=hrel;have HL:Hid (TL w wr f Bn (trS (fun _=>zK) f r n j)):=hL;have HSK:Hid (∀m,m<j→skk f r (20 - m)=false):=hsk;clear hL hsk HL5;by_cases hj8:j<21
     ·obtain ⟨v,hv⟩:∃v:Nat,20 - j=v:=⟨_,rfl⟩;have hvi:(20:Int) - (j:Int)=(v:Int):=by omega
      rw [hvi];have v0:(0:Int)≤(v:Int):=by omega
      have v1:(v:Int)<21:=by omega
      have vw:IntKind.u64.wrap (v:Int)=(v:Int):=by rw [IntKind.wrap_u64];omega
      obtain ⟨y,hy⟩:∃y:Int,n+((cd r j:Nat):Int)=y:=⟨_,rfl⟩;rw [hy];have HY:Hid (n+((cd r j:Nat):Int)=y):=hy;have HV:Hid (20 - j=v):=hv;clear hy hv hvi;have hand:=and1 r v hr;obtain ⟨c0,c1⟩:=HL.out.nx.cells v (by omega);have f0:=row_frozen HL.out.nx (v * 2);have f1:=row_frozen HL.out.nx (v * 2+1);have HI:Hid ((20:Int) - ((j+1:Nat):Int)=(v:Int) - 1):=by have:=HV.out;unfold Hid;omega
      have HVJ:Hid (20 - v=j):=by have:=HV.out;unfold Hid;omega
      have hcdl:=cd_le r j;have HCD:Hid (cd r (j+1)=cd r j+b1 r v):=by have:=HV.out;rw [←this];exact rfl
      have HTS:Hid (trS (fun _=>zK) f r n (j+1)=kup (trS (fun _=>zK) f r n j) v (trK f r n v)):=by have:=trS_step (fun _=>zK) f r n hj8;rw [HV.out] at this;exact this
      cases hb:r.testBit v with
      | true=>
       rw [hb] at hand;obtain ⟨fk1,fk2,_⟩:=frk_at hfk (by omega:v<21) hb;have HY1:Hid (y+1=n+((cd r (j+1):Nat):Int)):=by have h1:=HY.out;have h2:=HCD.out;unfold b1 at h2;rw [hb] at h2;simp at h2;unfold Hid;omega
       have hyw:IntKind.i64.wrap (y+1)=y+1:=i64_fit _ (by have:=HY.out;omega) (by have:=HY.out;have:=HCU.out;omega);have HL2:Hid (TL w ((wr.setCell ⟨Bn,v * 2,none⟩ (.int .i64 y)).setCell ⟨Bn,v * 2+1,none⟩ (.int .i64 0)) f Bn (kup (trS (fun _=>zK) f r n j) v ⟨y,0⟩)):=HL.out.set v (by omega) y 0;clear fk1 fk2;go_wp2_with fail
       go_roundw
       case rel=>
        refine ⟨j+1,by omega,by rw [HI.out],by rw [←HY1.out],?_,fun m hm=>?_⟩
        ·rw [HTS.out,trK_new hb,HVJ.out,HY.out];exact HL2.out
        ·rcases Nat.lt_or_ge m j with h | h
         ·exact HSK.out m h
         ·obtain rfl:m=j:=by omega
          unfold skk;rw [HV.out,hb];rfl
       case measure=>simp [intOf]
      | false=>
       rw [hb] at hand;obtain ⟨d0,d1⟩:=HL.out.ts.ks.cells v (by omega);obtain ⟨hG,_⟩:=(kchk_iff.1 hkc).1 v (by omega);have HY1:Hid (y=n+((cd r (j+1):Nat):Int)):=by have h1:=HY.out;have h2:=HCD.out;unfold b1 at h2;rw [hb] at h2;simp at h2;unfold Hid;omega
       have HTK:Hid (trK f r n v=⟨(f v).bas,(f v).stp+1⟩):=trK_old hb;have HSV:Hid (skk f r v=decide (254<(f v).stp)):=by unfold skk;rw [hb];rfl
       obtain ⟨e,he⟩:∃e,f v=e:=⟨_,rfl⟩;rw [he] at d0 d1 hG HTK HSV;have HFE:Hid (f v=e):=he;clear he;by_cases hst:254<e.stp
       ·have ha:=ahead_far e.bas e.stp 1 hG (Or.inr (by omega)) wr;clear c0 c1 f0 f1;go_wp2_with fail
        refine ha.mono ?_;rintro a w7 ⟨rfl,hb7⟩;have hT8:=(HL.out.ts.later hb7).later (below_alloc w7 (.cells #[.int .i64 0,.int .i64 0] 46));clear ha hb7 d0 d1;go_wp2_with (refine stK (g:=fun _=>zK) hT8.ze rfl _ _ rfl rfl zero42' ?_)
        refine bodyPost_ret (results_ks3 (p:=6) (t:=7) (u:=8) rfl _ _ (w.heap.size+1) (fun _=>zK) rfl (hT8.ze.row _)) rfl ?_;exact ⟨TurnA.no (trE_step hkc hr2 hfk (stuck_yes (v:=v) (by omega) (by rw [HSV.out];exact decide_eq_true hst))) (by decide),setRow_below (by omega) hT8.bel _⟩
       ·have ha:=ahead_yes e.bas e.stp 1 hG (by omega) (by omega) wr;clear c0 c1 f0 f1;go_wp2_with fail
        refine ha.mono ?_;rintro a w7 ⟨rfl,hb7⟩;have hL8:=(HL.out.later hb7).later (below_alloc w7 (.cells #[.int .i64 e.bas,.int .i64 (e.stp+1)] 46));obtain ⟨c0,c1⟩:=hL8.nx.cells v (by omega);have f0:=row_frozen hL8.nx (v * 2);have f1:=row_frozen hL8.nx (v * 2+1);have HL9:Hid (TL w (((w7.alloc (.cells #[.int .i64 e.bas,.int .i64 (e.stp+1)] 46)).setCell ⟨Bn,v * 2,none⟩ (.int .i64 e.bas)).setCell ⟨Bn,v * 2+1,none⟩ (.int .i64 (e.stp+1))) f Bn (kup (trS (fun _=>zK) f r n j) v ⟨e.bas,e.stp+1⟩)):=hL8.set v (by omega) e.bas (e.stp+1);clear ha hb7 d0 d1 hL8;go_wp2_with fail
        go_roundw
        case rel=>
         refine ⟨j+1,by omega,by rw [HI.out],by rw [←HY1.out],?_,fun m hm=>?_⟩
         ·rw [HTS.out,HTK.out];exact HL9.out
         ·rcases Nat.lt_or_ge m j with h | h
          ·exact HSK.out m h
          ·obtain rfl:m=j:=by omega
           rw [HV.out,HSV.out];exact decide_eq_false (by omega)
        case measure=>simp [intOf]
     ·obtain rfl:j=21:=by omega
      have HE0:Hid (trE f r n=0):=trE_ok hkc hr2 hfk (stuck_no fun v hv=>by have:=HSK.out (20 - v) (by omega);rw [show 20 - (20 - v)=v by omega] at this;exact this);have hN:=HL.out.nx.congr (trS_all _ _ _ _);rw [show cd r 21=cu r 21 from cd_all r];obtain ⟨y,hy⟩:∃y:Int,n+((cu r 21:Nat):Int)=y:=⟨_,rfl⟩;rw [hy];have HY:Hid (n+((cu r 21:Nat):Int)=y):=hy;clear hy;go_upto_region 19 with (fail)
      refine wp_region_lit ?_;refine ldK hN rfl _ rfl rfl ?_;go_wp2_with (refine stK (g:=trK f r n) HL.out.ts.ze rfl _ _ rfl rfl rfl ?_)
      refine bodyPost_ret (results_ks3 (p:=6) (t:=7) (u:=8) rfl _ _ (w.heap.size+1) (trK f r n) rfl (HL.out.ts.ze.row _)) rfl ?_;refine ⟨?_,setRow_below (by omega) HL.out.ts.bel _⟩;rw [←TurnA.yes HE0.out,HY.out];rfl
  ·have hs:((r:Int)/2097152==0)=false:=by simp;omega
   have hs2:¬((r:Int)/2097152=0):=by omega
   go_wp2_with (refine stK (g:=fun _=>zK) hT2.ze rfl _ _ rfl rfl zero42' ?_)
   refine bodyPost_ret (results_ks3 (p:=6) (t:=7) (u:=8) rfl _ _ (w.heap.size+1) (fun _=>zK) rfl (hT2.ze.row _)) rfl ?_;exact ⟨TurnA.no (trE_node hkc hr2) (by decide),setRow_below (by omega) hT2.bel _⟩
theorem frk_zero {f:Nat→Ky} {r:Nat} {n:Int} (h:cu r 21=0):frk f r n=true:=by unfold frk;rw [h];rfl
theorem frk_low {f:Nat→Ky} {r:Nat} {n:Int} (h:¬cu r 21=0) (h2:n<1∨32768 - (cu r 21:Int)<n):frk f r n=false:=by
 unfold frk;rw [decide_eq_false h,Bool.false_or];rcases h2 with h2 | h2
 ·rw [decide_eq_false (by omega),Bool.false_and]
 ·rw [decide_eq_false (p:=n≤_) (by omega),Bool.false_and,Bool.and_false]
theorem frk_fine {f:Nat→Ky} {r:Nat} {n:Int} (h1:1≤n) (h2:n≤32768 - (cu r 21:Int)) (hc:∀i,i<21→nm1 (f i) n (n+(cu r 21:Int))=false):frk f r n=true:=by
 unfold frk;rw [decide_eq_true h1,decide_eq_true h2,nmd_no hc];simp
end Go.Proofs.YtoimkngkcliinaaGreatDoor.Rt
