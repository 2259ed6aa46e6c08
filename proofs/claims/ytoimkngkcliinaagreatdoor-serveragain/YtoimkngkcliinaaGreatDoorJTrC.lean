/- TrC, TrE, TrL, TrMp, TrH, joined. -/
import Derived.Test.YtoimkngkcliinaaGreatDoorJTrMath
import Derived.Test.YtoimkngkcliinaaGreatDoorJRtB
import Derived.Test.YtoimkngkcliinaaGreatDoorJRsMath
import Derived.Test.YtoimkngkcliinaaGreatDoorHd
import Derived.Test.YtoimkngkcliinaaGreatDoorJShpMath
import Derived.Deep.RegionHeld3
import Derived.Maps.Own
import Derived.Maps.OwnOps
import Derived.Maps.StringElems
namespace Go.Proofs.YtoimkngkcliinaaGreatDoor
open Go.RowKit
open Rt (Ky zK kcs KsAt KyAt kchk kchkE)
open Rs (En zE rcs RoAt EnAt chk chkE)
set_option linter.unusedVariables false
set_option linter.unusedSimpArgs false
theorem chkE_tt {r:Nat→En} (h:chk r=true):chkE r=0:=by unfold chkE;rw [h];rfl
theorem chkE_ff {r:Nat→En} (h:chk r=false):chkE r=31:=by unfold chkE;rw [h];rfl
theorem tck_b {t:Tr} (h:bnd t=false):tck t=false:=by unfold tck;rw [h];rfl
theorem tck_k {t:Tr} (h:kchk t.ks=false):tck t=false:=by unfold tck;rw [h,Bool.false_and,Bool.and_false]
theorem tck_r {t:Tr} (h:chk t.ro=false):tck t=false:=by unfold tck;rw [h,Bool.false_and,Bool.and_false,Bool.and_false]
theorem tck_fk {t:Tr} (h:fitK t=false):tck t=false:=by unfold tck;rw [h,Bool.false_and,Bool.and_false,Bool.and_false,Bool.and_false]
theorem tck_fs {t:Tr} (h:fitS t=false):tck t=false:=by unfold tck;rw [h,Bool.and_false,Bool.and_false,Bool.and_false,Bool.and_false]
theorem tck_ok {t:Tr} (h1:bnd t=true) (h2:kchk t.ks=true) (h3:chk t.ro=true) (h4:fitK t=true) (h5:fitS t=true):tck t=true:=by unfold tck;rw [h1,h2,h3,h4,h5];rfl
theorem bnd_1 {t:Tr} (h:¬0≤t.ep):bnd t=false:=by unfold bnd;rw [decide_eq_false h];rfl
theorem bnd_2 {t:Tr} (h:¬t.ep≤200):bnd t=false:=by unfold bnd;rw [decide_eq_false h,Bool.false_and,Bool.and_false]
theorem bnd_3 {t:Tr} (h:¬22≤t.fr):bnd t=false:=by unfold bnd;rw [decide_eq_false h,Bool.false_and,Bool.and_false,Bool.and_false]
theorem bnd_4 {t:Tr} (h:¬t.fr≤32768):bnd t=false:=by unfold bnd;rw [decide_eq_false h,Bool.and_false,Bool.and_false,Bool.and_false]
theorem bnd_ok {t:Tr} (h1:0≤t.ep) (h2:t.ep≤200) (h3:22≤t.fr) (h4:t.fr≤32768):bnd t=true:=by unfold bnd;rw [decide_eq_true h1,decide_eq_true h2,decide_eq_true h3,decide_eq_true h4];rfl
set_option maxRecDepth 100000 in
set_option maxHeartbeats 1000000 in
theorem check_any (t:Tr) (w:World):Calls Tryz.prog 115 #[.agg (tcs t)] w fun r w'=>r=.returned (.int .i64 (tckE t))∧Below w.heap.size w w':=by
 have hn:=TrAt.new w t;have hB1:=alloc_tr w t;have h1:=Rt.check_any t.ks;have h2:=Rs.check_any t.ro;have h3:=keysFit_any t;have h4:=seatsFit_any t;obtain ⟨ck,hck⟩:∃c,kcs t.ks=c:=⟨_,rfl⟩;obtain ⟨cr,hcr⟩:∃c,rcs t.ro=c:=⟨_,rfl⟩;obtain ⟨ct,hct⟩:∃c,tcs t=c:=⟨_,rfl⟩;simp only [hck] at h1;simp only [hcr] at h2;simp only [hct] at h3 h4;have HK:Hid (kcs t.ks=ck):=hck;have HR:Hid (rcs t.ro=cr):=hcr;have HT:Hid (tcs t=ct):=hct;clear hck hcr hct;go_enter Tryz.func115,Tryz.ntmps115;go_upto_region 1 with (fail)
 generalize w.alloc (.cells (tcs t) 54)=w1 at *;rw [HT.out];obtain ⟨B,hBB⟩:∃B,w.heap.size=B:=⟨_,rfl⟩;rw [hBB] at hn ⊢;have HBB:Hid (w.heap.size=B):=hBB;clear hBB;obtain ⟨c0,c1⟩:=hn.cells;have HB1:Hid (Below w.heap.size w w1):=hB1
 cases q1:decide (t.ep<0) with
 | true=>
  have HBN:Hid (bnd t=false):=bnd_1 (by have:=of_decide_eq_true q1;omega);generalize t.ep=ep at *;generalize t.fr=fr at *;go_wp2_with fail
  go_ret;exact ⟨ret_int (by rw [tckE_ff (tck_b HBN.out)]),HB1.out⟩
 | false=>
  cases q2:decide (200<t.ep) with
  | true=>
   have HBN:Hid (bnd t=false):=bnd_2 (by have:=of_decide_eq_true q2;omega);generalize t.ep=ep at *;generalize t.fr=fr at *;go_wp2_with fail
   go_ret;exact ⟨ret_int (by rw [tckE_ff (tck_b HBN.out)]),HB1.out⟩
  | false=>
   cases q3:decide (t.fr<22) with
   | true=>
    have HBN:Hid (bnd t=false):=bnd_3 (by have:=of_decide_eq_true q3;omega);generalize t.ep=ep at *;generalize t.fr=fr at *;go_wp2_with fail
    go_ret;exact ⟨ret_int (by rw [tckE_ff (tck_b HBN.out)]),HB1.out⟩
   | false=>
    cases q4:decide (32768<t.fr) with
    | true=>
     have HBN:Hid (bnd t=false):=bnd_4 (by have:=of_decide_eq_true q4;omega);generalize t.ep=ep at *;generalize t.fr=fr at *;go_wp2_with fail
     go_ret;exact ⟨ret_int (by rw [tckE_ff (tck_b HBN.out)]),HB1.out⟩
    | false=>
     have HBN:Hid (bnd t=true):=bnd_ok (by have:=of_decide_eq_false q1;omega) (by have:=of_decide_eq_false q2;omega) (by have:=of_decide_eq_false q3;omega) (by have:=of_decide_eq_false q4;omega);generalize t.ep=ep at *;generalize t.fr=fr at *;go_wp2_with (refine rdK hn HK.out _ rfl rfl rfl ?_)
     clear q1 q2 q3 q4 c0 c1;refine (h1 _).mono ?_;rintro r w2 ⟨rfl,hb2⟩;have hn2:=hn.later hb2;have hB2:=hB1.trans (hb2.mono hB1.size);clear h1 hn hB1 hb2 HB1
     cases hk:kchk t.ks with
     | false=>
      rw [Rt.kchkE_ff hk];go_wp2_with fail
      go_ret;exact ⟨ret_int (by rw [tckE_ff (tck_k hk)]),hB2⟩
     | true=>
      rw [Rt.kchkE_tt hk];go_wp2_with (refine rdR hn2 HR.out _ rfl rfl rfl ?_)
      refine (h2 _).mono ?_;rintro r w3 ⟨rfl,hb3⟩;have hn3:=hn2.later hb3;have hB3:=hB2.trans (hb3.mono hB2.size);clear h2 hn2 hB2 hb3
      cases hr:chk t.ro with
      | false=>
       rw [chkE_ff hr];go_wp2_with fail
       go_ret;exact ⟨ret_int (by rw [tckE_ff (tck_r hr)]),hB3⟩
      | true=>
       rw [chkE_tt hr];go_wp2_with (refine rdT hn3 HT.out _ rfl rfl rfl ?_)
       refine (h3 _).mono ?_;rintro r w4 ⟨rfl,hb4⟩;have hn4:=hn3.later hb4;have hB4:=hB3.trans (hb4.mono hB3.size);clear h3 hn3 hB3 hb4
       cases hfk:fitK t with
       | false=>
        go_wp2_with fail
        go_ret;exact ⟨ret_int (by rw [tckE_ff (tck_fk hfk)]),hB4⟩
       | true=>
        go_wp2_with (refine rdT hn4 HT.out _ rfl rfl rfl ?_)
        refine (h4 _).mono ?_;rintro r w5 ⟨rfl,hb5⟩;have hB5:=hB4.trans (hb5.mono hB4.size);clear h4 hn4 hB4 hb5
        cases hfs:fitS t with
        | false=>
         go_wp2_with fail
         go_ret;exact ⟨ret_int (by rw [tckE_ff (tck_fs hfs)]),hB5⟩
        | true=>
         go_wp2_with fail
         go_ret;exact ⟨ret_int (by rw [tckE_tt (tck_ok HBN.out hk hr hfk hfs)]),hB5⟩
open Rt (Ky zK kcs KsAt KyAt lfE lfB lfS)
open Rs (En zE rcs RoAt EnAt tkn)
theorem infoKy:(Tryz.prog.info? 46).map (·.size)=some 2:=by kernel_rfl
theorem stKy {ops:Array Oper} {rest:List Oper} {o:Oper} {a:Act} {w:World} {Q:Exit→Act→World→Prop} {B:Nat} {e:Ky} (h:KyAt w B e) (d:Ky) (hgd:o.guard=none) (x y:Operand) (ho:o.op=.store 46 x y)
  (hx:a.eval x=.pointer (some ⟨B,0,none⟩)) (hy:a.eval y=.agg #[.int .i64 d.bas,.int .i64 d.stp]) (k:wpList Tryz.prog ops Q rest (a.put o.dst undef) (w.setRow B #[.int .i64 d.bas,.int .i64 d.stp])):wpList Tryz.prog ops Q (o::rest) a w:=
 wpList_store_row hgd 46 x y ho B _ hx hy 46 _ h infoKy rfl (by simp [Value.oneCell']) k
theorem KyAt.row {w:World} {B:Nat} {e:Ky} (h:KyAt w B e) (d:Ky):KyAt (w.setRow B #[.int .i64 d.bas,.int .i64 d.stp]) B d:=Rt.heap_setRow_same h _
theorem KyAt.set {w:World} {B:Nat} {e:Ky} (h:KyAt w B e) (a b:Int):KyAt ((w.setCell ⟨B,0,none⟩ (.int .i64 a)).setCell ⟨B,1,none⟩ (.int .i64 b)) B ⟨a,b⟩:=by
 have h3:=Rt.row_setCell (Rt.row_setCell h 0 (.int .i64 a)) 1 (.int .i64 b);exact h3
/- What stands while a key is looked up. -/
structure SK (w W:World) (B K:Nat) (t:Tr):Prop where
 tr:TrAt W B t
 ky:∃e:Ky,KyAt W K e
 bel:Below w.heap.size w W
 ne:B≠K
 ge:w.heap.size≤K
theorem SK.later {w W W':World} {B K:Nat} {t:Tr} (h:SK w W B K t) (hb:Below W.heap.size W W'):SK w W' B K t:=⟨h.tr.later hb,h.ky.elim fun e he=>⟨e,he.later hb⟩,h.bel.trans (hb.mono h.bel.size),h.ne,h.ge⟩
theorem SK.new (w:World) (t:Tr):SK w ((w.alloc (.cells (tcs t) 54)).alloc (.cells #[.int .i64 0,.int .i64 0] 46)) w.heap.size (w.heap.size+1) t:=by
 have h1:=TrAt.new w t;have hb1:=alloc_tr w t;have h2:=KyAt.new (w.alloc (.cells (tcs t) 54)) zK;have hb2:=Rt.alloc_ky (w.alloc (.cells (tcs t) 54)) zK;rw [World.size_alloc] at h2;exact ⟨h1.later hb2,⟨_,h2⟩,hb1.trans (hb2.mono hb1.size),by omega,by omega⟩
open Rt (Ky zK kcs KsAt KyAt)
structure SL (w W:World) (B K:Nat) (t:Tr) (e:Ky):Prop where
 tr:TrAt W B t
 ky:KyAt W K e
 bel:Below w.heap.size w W
open Go.RowKit Go.Maps
open Rt (Ky zK KyAt)
open Rs (En tkn)
set_option maxRecDepth 4000
/- The key of a node, in a right tree. -/
theorem kn {t:Tr} (h:tck t=true) {k:Nat} (hk:k<85) (h0:koE t (k:Int)=0):(k<21∧koK t (k:Int)=t.ks k)∨∃s,s<64∧k=21+s∧tkn (t.ro s)=true∧koK t (k:Int)=⟨(t.ro s).bas,t.ep - (t.ro s).snc⟩:=by
 by_cases hi:k<21
 ·left
  refine ⟨hi,?_⟩;unfold koK;rw [h0,if_pos rfl,if_pos (by omega),Int.toNat_natCast]
 ·right
  refine ⟨k - 21,by omega,by omega,?_,?_⟩
  ·have e:(k:Int)=21+((k - 21:Nat):Int):=by omega
   rw [e,koE_leaf h (by omega)] at h0
   cases ht:tkn (t.ro (k - 21)) with
   | true=>rfl
   | false=>rw [leaf_free ht] at h0;cases h0
  ·unfold koK;rw [h0,if_pos rfl,if_neg (by omega),show ((k:Int) - 21).toNat=k - 21 by omega]
open Rt (Ky zK kcs)
open Rs (En zE rcs RoAt EnAt tkn tk)
open Sh (belB msk)
theorem hld_and (r:Nat→En) (v:Int):(bits .and .u64 ((tk r:Nat):Int) (msk v)!=0)=hld r v:=by
 have h:=Sh.hit_and v ((tk r:Nat):Int) (by omega) (by have:=Rs.tk_lt r;omega);obtain ⟨m0,m1⟩:=Sh.msk_bd v;rw [u64_and _ _ m0 m1 (by omega) (by have:=Rs.tk_lt r;omega),Nat.and_comm,←u64_and _ _ (by omega) (by have:=Rs.tk_lt r;omega) m0 m1,hit_hld] at h;exact h
end Go.Proofs.YtoimkngkcliinaaGreatDoor
