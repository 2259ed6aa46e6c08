/- RsD, RsE, RsMath3, RsN, RsG, joined. -/
import Derived.Test.YtoimkngkcliinaaGreatDoorJRsMath
import Derived.Deep.RegionHeld3
import Derived.Test.YtoimkngkcliinaaGreatDoorHd
import Derived.Test.YtoimkngkcliinaaGreatDoorJStMath
import Derived.Test.YtoimkngkcliinaaGreatDoorJStF
import Derived.BigQuiet
import Derived.Laws.OwnMore
import Derived.Deep.AppendLies
namespace Go.Proofs.YtoimkngkcliinaaGreatDoor.Rs
open Go.RowKit
set_option linter.unusedVariables false
set_option maxRecDepth 4000
set_option linter.unusedSimpArgs false
/- Marks lie in a block. -/
def SnAt (w:World) (B:Nat) (t:TypeId) (l:List Int):Prop:=w.heap[B]? =some (.cells (sns l) t (0,0))
theorem SnAt.lt {w:World} {B:Nat} {t:TypeId} {l:List Int} (h:SnAt w B t l):B<w.heap.size:=(Array.getElem?_eq_some_iff.1 h).1
theorem SnAt.below {n:Nat} {w w':World} {B:Nat} {t:TypeId} {l:List Int} (h:SnAt w B t l) (hb:Below n w w') (hn:B<n):SnAt w' B t l:=(hb.block B hn).trans h
theorem SnAt.later {w w':World} {B:Nat} {t:TypeId} {l:List Int} (h:SnAt w B t l) (hb:Below w.heap.size w w'):SnAt w' B t l:=h.below hb h.lt
theorem SnAt.new (w:World) (t:TypeId) (l:List Int):SnAt (w.alloc (.cells (sns l) t)) w.heap.size t l:=heap_alloc_last w _
theorem SnAt.cell {w:World} {B:Nat} {t:TypeId} {l:List Int} (h:SnAt w B t l) (k:Nat) (hk:k<256):w.cell? ⟨B,k,none⟩=some (.bool (decide ((k:Int)∈l))):=(cell_of_row w B _ _ _ _ h).trans (sns_get l k hk)
theorem row_frozen {w:World} {B:Nat} {cs:Array Value} {t:TypeId} (h:w.heap[B]? =some (.cells cs t (0,0))) (k:Nat):w.frozen? ⟨B,k,none⟩=false:=by
 simp [World.frozen?,h]
theorem row_setCell {w:World} {B:Nat} {cs:Array Value} {t:TypeId} (h:w.heap[B]? =some (.cells cs t (0,0))) (k:Nat) (v:Value):(w.setCell ⟨B,k,none⟩ v).heap[B]? =some (.cells (cs.setIfInBounds k v) t (0,0)):=by
 simp only [World.setCell,Array.getElem?_modify];rw [if_pos trivial,h];rfl
theorem other_setCell {w:World} {B C:Nat} (h:C≠B) (k:Nat) (v:Value):(w.setCell ⟨B,k,none⟩ v).heap[C]? =w.heap[C]? :=by
 simp only [World.setCell,Array.getElem?_modify];rw [if_neg (fun e=>h e.symm)]
theorem SnAt.set {w:World} {B:Nat} {t:TypeId} {l:List Int} (h:SnAt w B t l) (k:Nat) (hk:k<256):SnAt (w.setCell ⟨B,k,none⟩ (.bool true)) B t (l++[(k:Int)]):=by
 have:=row_setCell h k (.bool true);rw [sns_set l k hk] at this;exact this
theorem RoAt.other {w:World} {B C:Nat} {f:Nat→En} (h:RoAt w C f) (hne:C≠B) (k:Nat) (v:Value):RoAt (w.setCell ⟨B,k,none⟩ v) C f:=(other_setCell hne k v).trans h
theorem zero62:Tryz.zeroCells404=sns []:=by kernel_rfl
theorem add_who (p:Value) (x:Int) (h:wok x=false) (w:World):Calls Tryz.prog 304 #[p,.int .i64 x] w fun e w'=>e=.returned (.int .i64 14)∧w'=w:=by
 have hw:=isWho_any x;rw [h] at hw;go_enter Tryz.func304,Tryz.ntmps304;go_wp2_with (go_at_call 293;refine (hw _).mono ?_;rintro r w' ⟨rfl,rfl⟩)
 go_ret;exact ⟨rfl,rfl⟩
theorem add_twice {w:World} {B:Nat} {l:List Int} (hS:SnAt w B 404 l) (x:Int) (h:wok x=true) (h2:decide (x∈l)=true):Calls Tryz.prog 304 #[.pointer (some ⟨B,0,none⟩),.int .i64 x] w fun e w'=>e=.returned (.int .i64 15)∧w'=w:=by
 have hw:=isWho_any x;rw [h] at hw;obtain ⟨k,rfl,hk⟩:=wok_nat h;have hc:=hS.cell k hk;rw [h2] at hc;have k1:(k:Int)<256:=by omega
 clear h2;go_enter Tryz.func304,Tryz.ntmps304;go_wp2_with (go_at_call 293;refine (hw _).mono ?_;rintro r w' ⟨rfl,rfl⟩)
 go_ret;exact ⟨rfl,rfl⟩
theorem add_ok {w:World} {B:Nat} {l:List Int} (hS:SnAt w B 404 l) (k:Nat) (hk:k<256) (h:wok (k:Int)=true) (h2:decide ((k:Int)∈l)=false):Calls Tryz.prog 304 #[.pointer (some ⟨B,0,none⟩),.int .i64 (k:Int)] w fun e w'=>e=.returned (.int .i64 0)∧w'=w.setCell ⟨B,k,none⟩ (.bool true):=by
 have hw:=isWho_any (k:Int);rw [h] at hw;have hc:=hS.cell k hk;rw [h2] at hc;have hf:=row_frozen hS k;have k1:(k:Int)<256:=by omega
 clear h2;go_enter Tryz.func304,Tryz.ntmps304;go_wp2_with (go_at_call 293;refine (hw _).mono ?_;rintro r w' ⟨rfl,rfl⟩)
 go_ret;exact ⟨rfl,rfl⟩
/- What stands while a batch is looked at: the roster and the batch, boxed. -/
structure FS (w W:World) (f:Nat→En) (aL aJ:Option Addr) (nL nJ cL cJ:Nat):Prop where
 ro:RoAt W w.heap.size f
 bt:W.heap[w.heap.size+1]? =some (.cells #[.slice aL nL cL,.slice aJ nJ cJ] 41 (0,0))
 bel:Below w.heap.size w W
theorem FS.later {w W W':World} {f:Nat→En} {aL aJ:Option Addr} {nL nJ cL cJ:Nat} (h:FS w W f aL aJ nL nJ cL cJ) (hb:Below W.heap.size W W'):FS w W' f aL aJ nL nJ cL cJ:=
 ⟨h.ro.later hb,(hb.block _ (Array.getElem?_eq_some_iff.1 h.bt).1).trans h.bt,h.bel.trans (hb.mono h.bel.size)⟩
theorem FS.set {w W:World} {f:Nat→En} {aL aJ:Option Addr} {nL nJ cL cJ:Nat} (h:FS w W f aL aJ nL nJ cL cJ) {M:Nat} (hM:w.heap.size+1<M) (k:Nat) (v:Value):FS w (W.setCell ⟨M,k,none⟩ v) f aL aJ nL nJ cL cJ:=
 ⟨h.ro.other (by omega) k v,(other_setCell (by omega) k v).trans h.bt,h.bel.setCell (p:=⟨M,k,none⟩) (by show w.heap.size≤M;omega) v⟩
theorem FS.cells {w W:World} {f:Nat→En} {aL aJ:Option Addr} {nL nJ cL cJ:Nat} (h:FS w W f aL aJ nL nJ cL cJ):W.cell? ⟨w.heap.size+1,0,none⟩=some (.slice aL nL cL)∧W.cell? ⟨w.heap.size+1,1,none⟩=some (.slice aJ nJ cJ):=
 ⟨cell_of_row W _ 0 _ _ _ h.bt,cell_of_row W _ 1 _ _ _ h.bt⟩
theorem FS.new (w:World) (f:Nat→En) (aL aJ:Option Addr) (nL nJ cL cJ:Nat):FS w ((w.alloc (.cells (rcs f) 52)).alloc (.cells #[.slice aL nL cL,.slice aJ nJ cJ] 41)) f aL aJ nL nJ cL cJ:=by
 have b2:Below (w.alloc (.cells (rcs f) 52)).heap.size (w.alloc (.cells (rcs f) 52)) ((w.alloc (.cells (rcs f) 52)).alloc (.cells #[.slice aL nL cL,.slice aJ nJ cJ] 41)):=(Below.refl _ _).alloc (Nat.le_refl _) _;refine ⟨(RoAt.new w f).later b2,?_,(alloc_ro w f).trans (b2.mono (by simp))⟩;have:=heap_alloc_last (w.alloc (.cells (rcs f) 52)) (.cells #[.slice aL nL cL,.slice aJ nJ cJ] 41);rw [World.size_alloc] at this;exact this
theorem ld25_run {w:World} {B:Nat} {f:Nat→En} (h:RoAt w B f):(Instr.loadAt 52 (.pointer (some ⟨B,0,none⟩))).run Tryz.prog w=.ok (.agg (rcs f)) w:=by
 simp only [Instr.loadAt,Instr.sureAddr,Sem.run_bind,Sem.run_pure,Result.andThen];exact run_loadVar_row w B _ _ _ _ _ h Tryz.underlying52 rfl (by rw [rcs_size];exact info25)
theorem ld25_exec {w:World} {B:Nat} {f:Nat→En} (h:RoAt w B f) {a:Act} {o:Oper} {x:Operand} (ho:o.op=.load 52 x) (hx:a.eval x=.pointer (some ⟨B,0,none⟩)):(execOp a.eval o).run Tryz.prog w=.ok (.value (.agg (rcs f))) w:=by
 have:=ld25_run h;simp [execOp,ho,hx,this,Sem.run_bind,Result.andThen]
set_option maxRecDepth 100000 in
set_option maxHeartbeats 4000000 in
theorem fits_any (f:Nat→En) (aL aJ:Option Addr) (cL cJ:Nat) (L J:List Int) (w:World) (lL:L.length<1152921504606846976) (lJ:J.length<1152921504606846976) (hL:RdI w aL L) (hJ:RdI w aJ J):
  Calls Tryz.prog 246 #[.agg (rcs f),.agg #[.slice aL L.length cL,.slice aJ J.length cJ]] w fun e w'=>e=.returned (.int .i64 (ft f L J))∧Below w.heap.size w w':=by
 have hF2:=FS.new w f aL aJ L.length J.length cL cJ;go_enter Tryz.func246,Tryz.ntmps246;go_upto_region 1 with (fail)
 generalize (w.alloc (.cells (rcs f) 52)).alloc (.cells #[.slice aL L.length cL,.slice aJ J.length cJ] 41)=w2 at *;refine wp_region_lit ?_;refine ld25 hF2.ro rfl _ rfl rfl ?_;have hck:=check_any f w2;go_wp2_with fail
 refine hck.mono ?_;rintro r w3 ⟨rfl,hb3⟩;have hF3:=hF2.later hb3;clear hck hb3 hF2
 cases hck:chk f with
 | false=>
  rw [chkE_ff hck];go_wp2_with fail
  go_ret;exact ⟨ret_int (by rw [ft_tree L J hck]),hF3.bel⟩
 | true=>
  rw [chkE_tt hck];go_upto_region 5 with (fail)
  rw [zero62];have hM:w.heap.size+1<w3.heap.size:=(Array.getElem?_eq_some_iff.1 hF3.bt).1;have hb4:Below w3.heap.size w3 (w3.alloc (.cells (sns []) 404)):=(Below.refl _ w3).alloc (Nat.le_refl _) _;have hN4:=SnAt.new w3 404 [];have hF4:=hF3.later hb4;generalize w3.alloc (.cells (sns []) 404)=w4 at *;generalize w3.heap.size=M at *;obtain ⟨cl,cj⟩:=hF4.cells;have HFS:Hid (FS w w4 f aL aJ L.length J.length cL cJ):=hF4;have HSN:Hid (SnAt w4 M 404 []):=hN4;clear hb4 hF3 hF4 hN4;obtain ⟨c,hc⟩:∃c,rcs f=c:=⟨_,rfl⟩;rw [hc];clear hc;go_wp2_with fail
  go_loopw [21] (fun i wx=>∃k:Nat,k≤L.length∧i=.int .i64 (k:Int)∧FS w wx f aL aJ L.length J.length cL cJ∧SnAt wx M 404 ([]++L.take k)∧fr' f true [] L=fr' f true ([]++L.take k) (L.drop k)) (fun i _=>L.length - (intOf i).toNat)
  case atStart=>exact ⟨0,by omega,rfl,HFS.out,by simpa using HSN.out,by simp⟩
  case round=>
   obtain ⟨k,hk,rfl,hfs,hsn,heq⟩:=hrel;have HF:Hid (FS w wr f aL aJ L.length J.length cL cJ):=hfs;have HN:Hid (SnAt wr M 404 ([]++L.take k)):=hsn;have HQ:Hid (fr' f true [] L=fr' f true ([]++L.take k) (L.drop k)):=heq;clear hfs hsn heq HFS HSN;by_cases hkN:k<L.length
   ·have i1:(0:Int)≤(k:Int):=by omega
    have i2:(k:Int)<(L.length:Int):=by omega
    obtain ⟨b,o,hal,hcell⟩:=(hL.later HF.out.bel) k hkN;have HS:Hid (fr' f true [] L=if er f true ([]++L.take k) (L.getD k 0)=0 then fr' f true ([]++L.take (k+1)) (L.drop (k+1)) else er f true ([]++L.take k) (L.getD k 0)):=by rw [←fr_step f true [] L hkN];exact HQ.out
    have HT:Hid (L.take (k+1)=L.take k++[L.getD k 0]):=take_getD hkN;obtain ⟨x,hx⟩:∃x,L.getD k 0=x:=⟨_,rfl⟩;rw [hx] at hcell HS HT;obtain ⟨pr,hpr⟩:∃pr,[]++L.take k=pr:=⟨_,rfl⟩;rw [hpr] at HS HN;have HER:Hid (er f true pr x=if wok x then (if decide (x∈pr) then 15 else if true then (if on f x then 0 else 16) else (if on f x then 17 else 0)) else 14):=rfl;have HPR:Hid ([]++L.take k=pr):=hpr;clear hx hpr HQ;subst hal
    cases hw:wok x with
    | false=>
     have ha:=add_who (.pointer (some ⟨M,0,none⟩)) x hw;go_wp2_with (go_at_call 304;refine (ha _).mono ?_;rintro r w5 ⟨rfl,rfl⟩)
     go_ret;have he:er f true pr x=14:=by rw [HER.out,hw];rfl
     exact ⟨ret_int (by rw [ft_left J hck (by rw [HS.out,he];simp),HS.out,he];rfl),HF.out.bel⟩
    | true=>
     cases hm:decide (x∈pr) with
     | true=>
      have ha:=add_twice HN.out x hw hm;have HM:Hid (decide (x∈pr)=true):=hm;clear hm;go_wp2_with (go_at_call 304;refine ha.mono ?_;rintro r w5 ⟨rfl,rfl⟩)
      go_ret;have he:er f true pr x=15:=by rw [HER.out,hw,HM.out];rfl
      exact ⟨ret_int (by rw [ft_left J hck (by rw [HS.out,he];simp),HS.out,he];rfl),HF.out.bel⟩
     | false=>
      obtain ⟨xn,rfl,hxn⟩:=wok_nat hw;have ha:=add_ok HN.out xn hxn hw hm;have hm':Hid (decide ((xn:Int)∈pr)=false):=hm;have HF5:Hid (FS w (wr.setCell ⟨M,xn,none⟩ (.bool true)) f (some ⟨b,o,none⟩) aJ L.length J.length cL cJ):=HF.out.set hM xn _;have HN5:Hid (SnAt (wr.setCell ⟨M,xn,none⟩ (.bool true)) M 404 (pr++[(xn:Int)])):=HN.out.set xn hxn;clear hm;go_upto_region 11 with (go_at_call 304;refine ha.mono ?_;rintro r w5 ⟨rfl,rfl⟩)
      generalize wr.setCell ⟨M,xn,none⟩ (.bool true)=w5 at *;refine wp_region_lit ?_;refine ld25 HF5.out.ro rfl _ rfl rfl ?_;have hfi:=find_any f (xn:Int) w5;go_wp2_with fail
      refine hfi.mono ?_;rintro r w6 ⟨rfl,hb6⟩;have HF6:Hid (FS w w6 f (some ⟨b,o,none⟩) aJ L.length J.length cL cJ):=HF5.out.later hb6;have HN6:Hid (SnAt w6 M 404 (pr++[(xn:Int)])):=HN5.out.later hb6;clear hfi hb6 ha;have hon:=on_ne f (xn:Int);have HON:Hid (on f (xn:Int)= !decide (fnd f (xn:Int)=-1)):=hon;clear hon;by_cases hfd:fnd f (xn:Int)=-1
      ·have q1:(fnd f (xn:Int)== -1)=true:=by simp [hfd]
       have HFD:Hid (fnd f (xn:Int)=-1):=hfd;clear hfd;generalize fnd f (xn:Int)=fi at *;go_wp2_with fail
       go_ret;have he:er f true pr (xn:Int)=16:=by rw [HER.out,hw,hm'.out,HON.out,decide_eq_true HFD.out];rfl
       exact ⟨ret_int (by rw [ft_left J hck (by rw [HS.out,he];simp),HS.out,he];rfl),HF6.out.bel⟩
      ·have q1:(fnd f (xn:Int)== -1)=false:=by simp [hfd]
       have HFD:Hid (¬fnd f (xn:Int)=-1):=hfd;clear hfd;generalize fnd f (xn:Int)=fi at *;go_wp2_with fail
       go_roundw
       case rel=>
        have he:er f true pr (xn:Int)=0:=by rw [HER.out,hw,hm'.out,HON.out,decide_eq_false HFD.out];rfl
        refine ⟨k+1,by omega,by go_num,HF6.out,?_,?_⟩
        ·rw [HT.out,←List.append_assoc,HPR.out];exact HN6.out
        ·rw [HS.out,he];rfl
       case measure=>simp [intOf];omega
   ·obtain rfl:k=L.length:=by omega
    have hdk:decide ((L.length:Int)<(L.length:Int))=false:=by simp
    have HZ:Hid (fr' f true [] L=0):=by show fr' f true [] L=0;rw [HQ.out];exact fr_end f true [] L
    have HFS:Hid (FS w wr f aL aJ L.length J.length cL cJ):=HF.out;have HSN:Hid (SnAt wr M 404 L):=by have h:=HN.out;rw [List.take_length,List.nil_append] at h;exact h
    obtain ⟨cl,cj⟩:=HF.out.cells;clear HF HN HQ hk hkN;go_wp2_with fail
    go_loopw [38] (fun i wx=>∃k:Nat,k≤J.length∧i=.int .i64 (k:Int)∧FS w wx f aL aJ L.length J.length cL cJ∧SnAt wx M 404 (L++J.take k)∧fr' f false L J=fr' f false (L++J.take k) (J.drop k)) (fun i _=>J.length - (intOf i).toNat)
    case atStart=>exact ⟨0,by omega,rfl,HFS.out,by simpa using HSN.out,by simp⟩
    case round=>
     obtain ⟨k,hk,rfl,hfs,hsn,heq⟩:=hrel;have HF:Hid (FS w wr f aL aJ L.length J.length cL cJ):=hfs;have HN:Hid (SnAt wr M 404 (L++J.take k)):=hsn;have HQ:Hid (fr' f false L J=fr' f false (L++J.take k) (J.drop k)):=heq;clear hfs hsn heq HFS HSN;by_cases hkN:k<J.length
     ·have i1:(0:Int)≤(k:Int):=by omega
      have i2:(k:Int)<(J.length:Int):=by omega
      obtain ⟨b,o,hal,hcell⟩:=(hJ.later HF.out.bel) k hkN;have HS:Hid (fr' f false L J=if er f false (L++J.take k) (J.getD k 0)=0 then fr' f false (L++J.take (k+1)) (J.drop (k+1)) else er f false (L++J.take k) (J.getD k 0)):=by rw [←fr_step f false L J hkN];exact HQ.out
      have HT:Hid (J.take (k+1)=J.take k++[J.getD k 0]):=take_getD hkN;obtain ⟨x,hx⟩:∃x,J.getD k 0=x:=⟨_,rfl⟩;rw [hx] at hcell HS HT;obtain ⟨pr,hpr⟩:∃pr,L++J.take k=pr:=⟨_,rfl⟩;rw [hpr] at HS HN;have HER:Hid (er f false pr x=if wok x then (if decide (x∈pr) then 15 else if false then (if on f x then 0 else 16) else (if on f x then 17 else 0)) else 14):=rfl;have HPR:Hid (L++J.take k=pr):=hpr;clear hx hpr HQ;subst hal
      cases hw:wok x with
      | false=>
       have ha:=add_who (.pointer (some ⟨M,0,none⟩)) x hw;go_wp2_with (go_at_call 304;refine (ha _).mono ?_;rintro r w5 ⟨rfl,rfl⟩)
       go_ret;have he:er f false pr x=14:=by rw [HER.out,hw];rfl
       exact ⟨ret_int (by rw [ft_join hck HZ.out (by rw [HS.out,he];simp),HS.out,he];rfl),HF.out.bel⟩
      | true=>
       cases hm:decide (x∈pr) with
       | true=>
        have ha:=add_twice HN.out x hw hm;have HM:Hid (decide (x∈pr)=true):=hm;clear hm;go_wp2_with (go_at_call 304;refine ha.mono ?_;rintro r w5 ⟨rfl,rfl⟩)
        go_ret;have he:er f false pr x=15:=by rw [HER.out,hw,HM.out];rfl
        exact ⟨ret_int (by rw [ft_join hck HZ.out (by rw [HS.out,he];simp),HS.out,he];rfl),HF.out.bel⟩
       | false=>
        obtain ⟨xn,rfl,hxn⟩:=wok_nat hw;have ha:=add_ok HN.out xn hxn hw hm;have hm':Hid (decide ((xn:Int)∈pr)=false):=hm;have HF5:Hid (FS w (wr.setCell ⟨M,xn,none⟩ (.bool true)) f aL (some ⟨b,o,none⟩) L.length J.length cL cJ):=HF.out.set hM xn _;have HN5:Hid (SnAt (wr.setCell ⟨M,xn,none⟩ (.bool true)) M 404 (pr++[(xn:Int)])):=HN.out.set xn hxn;clear hm;go_upto_region 20 with (go_at_call 304;refine ha.mono ?_;rintro r w5 ⟨rfl,rfl⟩)
        generalize wr.setCell ⟨M,xn,none⟩ (.bool true)=w5 at *;refine wp_region_lit ?_;refine ld25 HF5.out.ro rfl _ rfl rfl ?_;have hfi:=find_any f (xn:Int) w5;go_wp2_with fail
        refine hfi.mono ?_;rintro r w6 ⟨rfl,hb6⟩;have HF6:Hid (FS w w6 f aL (some ⟨b,o,none⟩) L.length J.length cL cJ):=HF5.out.later hb6;have HN6:Hid (SnAt w6 M 404 (pr++[(xn:Int)])):=HN5.out.later hb6;clear hfi hb6 ha;have hon:=on_ne f (xn:Int);have HON:Hid (on f (xn:Int)= !decide (fnd f (xn:Int)=-1)):=hon;clear hon;by_cases hfd:fnd f (xn:Int)=-1
        ·have q1:(fnd f (xn:Int)== -1)=true:=by simp [hfd]
         have HFD:Hid (fnd f (xn:Int)=-1):=hfd;clear hfd;generalize fnd f (xn:Int)=fi at *;go_wp2_with fail
         go_roundw
         case rel=>
          have he:er f false pr (xn:Int)=0:=by rw [HER.out,hw,hm'.out,HON.out,decide_eq_true HFD.out];rfl
          refine ⟨k+1,by omega,by go_num,HF6.out,?_,?_⟩
          ·rw [HT.out,←List.append_assoc,HPR.out];exact HN6.out
          ·rw [HS.out,he];rfl
         case measure=>simp [intOf];omega
        ·have q1:(fnd f (xn:Int)== -1)=false:=by simp [hfd]
         have HFD:Hid (¬fnd f (xn:Int)=-1):=hfd;clear hfd;generalize fnd f (xn:Int)=fi at *;go_wp2_with fail
         go_ret;have he:er f false pr (xn:Int)=17:=by rw [HER.out,hw,hm'.out,HON.out,decide_eq_false HFD.out];rfl
         exact ⟨ret_int (by rw [ft_join hck HZ.out (by rw [HS.out,he];simp),HS.out,he];rfl),HF6.out.bel⟩
     ·obtain rfl:k=J.length:=by omega
      have hdk:decide ((J.length:Int)<(J.length:Int))=false:=by simp
      have HZ2:Hid (fr' f false L J=0):=by show fr' f false L J=0;rw [HQ.out];exact fr_end f false L J
      have HCN:Hid ((bl (nt (tk f))).length=64 - cnt f):=cnt_nt f;have HC64:Hid (cnt f≤64):=cnt_le f;have hnot:bits BinOp.xor IntKind.u64 (if IntKind.u64.signed=true then -1 else IntKind.u64.max) ((tk f:Nat):Int)=((nt (tk f):Nat):Int):=by rw [if_neg (by decide)];exact not_u64 _ (tk_lt f)
      have hnot2:=not_u64 _ (tk_lt f);have htk:=taken_any f;have hct:=count_any (nt (tk f)) (nt_lt _);obtain ⟨C,hC⟩:∃C,(bl (nt (tk f))).length=C:=⟨_,rfl⟩;rw [hC] at hct HCN;clear hC;generalize nt (tk f)=nq at *;generalize tk f=q at *;go_upto_region 23 with (fail)
      obtain ⟨NL,hNL⟩:∃NL,L.length=NL:=⟨_,rfl⟩;obtain ⟨NJ,hNJ⟩:∃NJ,J.length=NJ:=⟨_,rfl⟩;have HFq:Hid (FS w wr f aL aJ NL NJ cL cJ):=by have h:=HF.out;rw [hNL,hNJ] at h;exact h
      have HNL:Hid (L.length=NL):=hNL;have HNJ:Hid (J.length=NJ):=hNJ;rw [hNL] at lL;rw [hNJ] at lJ;rw [hNL,hNJ];clear hNL hNJ hk hkN HF HN HQ hdk;have hwr:IntKind.i64.wrap ((C:Int)+(NL:Int))=(C:Int)+(NL:Int):=i64_fit _ (by omega) (by have:=HCN.out;omega);have hS0:FS w wr.drew f aL aJ NL NJ cL cJ:=HFq.out.later ⟨rfl,rfl,rfl,Nat.le_refl _,fun _ _=>rfl⟩;refine wp_region_held_drew (S:=fun W=>FS w W f aL aJ NL NJ cL cJ) (by kernel_rfl) hS0 (fun hHeld=>?_);refine opX 0 (.pointer (some ⟨w.heap.size+1,1,none⟩)) rfl ?_;go_frame;refine opY 1 (.slice aJ NJ cJ) rfl (fun w hSw=>by obtain ⟨cl,cj⟩:=FS.cells hSw;clear hSw;go_simp) ?_;go_frame;refine opX 2 (.int .i64 (NJ:Int)) rfl ?_;go_frame;refine opY 3 (.agg (rcs f)) rfl (fun w hSw=>ld25_exec (FS.ro hSw) rfl rfl) ?_;go_frame;refine opX 7 (.pointer (some ⟨w.heap.size+1,0,none⟩)) rfl ?_;go_frame;refine opY 8 (.slice aL NL cL) rfl (fun w hSw=>by obtain ⟨cl,cj⟩:=FS.cells hSw;clear hSw;go_simp) ?_;go_frame;refine opX 9 (.int .i64 (NL:Int)) rfl ?_;go_frame;refine rdy 4 rfl fun K hK=>?_;go_simp
      refine (htk _).mono ?_;rintro e w' ⟨rfl,hb7⟩;go_wp2_with fail
      refine hK.out _ _ (FS.later hHeld hb7) (fun hHeld2=>?_);clear hb7 hHeld;clear hK K;try go_frame
      refine opX 5 (.int .u64 (nq:Int)) rfl ?_;go_frame;refine rdy 6 rfl fun K hK=>?_;go_simp
      refine (hct _).mono ?_;rintro e w' ⟨rfl,rfl⟩;go_wp2_with fail
      refine hK.out _ _ hHeld2 (fun hHeld3=>?_);clear hHeld2;clear hK K;try go_frame
      refine opX 10 (.int .i64 ((C:Int)+(NL:Int))) rfl ?_;go_frame;refine opX 11 (.bool (decide ((C:Int)+(NL:Int)<(NJ:Int)))) rfl ?_;go_frame;refine wpAnyH_done (by kernel_rfl) ?_ _;by_cases hgt:(C:Int)+(NL:Int)<(NJ:Int)
      ·have hd:decide ((C:Int)+(NL:Int)<(NJ:Int))=true:=by simp [hgt]
       rw [hd];go_wp2_with fail
       go_ret;exact ⟨ret_int (by rw [ft_full hck HZ.out HZ2.out,if_pos (by rw [HNL.out,HNJ.out];have:=HCN.out;omega)]),hHeld3.bel⟩
      ·have hd:decide ((C:Int)+(NL:Int)<(NJ:Int))=false:=by simp;omega
       rw [hd];go_wp2_with fail
       go_ret;exact ⟨ret_int (by rw [ft_full hck HZ.out HZ2.out,if_neg (by rw [HNL.out,HNJ.out];have:=HCN.out;have:=HC64.out;omega)]),hHeld3.bel⟩
/- Seats (a person, a slot) as cells. -/
def ps (l:List (Int×Int)):List Value:=l.flatMap fun p=>[.int .i64 p.1,.int .i64 p.2]
theorem ps_snoc (l:List (Int×Int)) (p:Int×Int):ps (l++[p])=ps l++[.int .i64 p.1,.int .i64 p.2]:=by simp [ps]
@[simp] theorem ps_length (l:List (Int×Int)):(ps l).length=l.length * 2:=by
 induction l with
 | nil=>rfl
 | cons a l ih=>
  have:ps (a::l)=.int .i64 a.1:: .int .i64 a.2::ps l:=rfl;rw [this];simp [ih];omega
/- One is put out. -/
def ev1 (g:Nat→En) (x:Int):Nat→En:=if on g x then upd g (fnd g x).toNat zE else g
def evs (f:Nat→En) (L:List Int):Nat→En:=L.foldl ev1 f
theorem evs_snoc (f:Nat→En) (L:List Int) (x:Int):evs f (L++[x])=ev1 (evs f L) x:=by simp [evs]
theorem ev1_on {g:Nat→En} {x:Int} {j:Nat} (h:fnd g x=(j:Int)):ev1 g x=upd g j zE:=by
 have:on g x=true:=by unfold on;rw [h];simp
 unfold ev1;rw [this,if_pos rfl,h,Int.toNat_natCast]
def evl:(Nat→En)→List Int→List (Int×Int)
 | _,[]=>[]
 | f,x::r=>(x,fnd f x)::evl (ev1 f x) r
theorem evl_snoc:∀(f:Nat→En) (L:List Int) (x:Int),evl f (L++[x])=evl f L++[(x,fnd (evs f L) x)]
 | f,[],x=>rfl
 | f,y::r,x=>by
  rw [List.cons_append,evl,evl_snoc (ev1 f y) r x,evl];rfl
@[simp] theorem evl_length:∀(f:Nat→En) (L:List Int),(evl f L).length=L.length
 | f,[]=>rfl
 | f,y::r=>by rw [evl,List.length_cons,evl_length,List.length_cons]
theorem fnd_on {f:Nat→En} {x:Int} (h:on f x=true):∃j:Nat,fnd f x=(j:Int)∧j<64:=by
 rcases fnd_range f x with e | ⟨j,e,h1,_⟩
 ·unfold on at h;rw [e] at h;simp at h
 ·exact ⟨j,e,h1⟩
/- Some are let in, at the slots T. -/
def adm (f:Nat→En) (T:List Nat) (J:List Int) (sc bs:Int):Nat→(Nat→En)
 | 0=>f
 | k+1=>upd (adm f T J sc bs k) (T.getD k 0) ⟨J.getD k 0,bs+(k:Int),sc⟩
def adl (T:List Nat) (J:List Int):Nat→List (Int×Int)
 | 0=>[]
 | k+1=>adl T J k++[(J.getD k 0,((T.getD k 0:Nat):Int))]
@[simp] theorem adl_length (T:List Nat) (J:List Int):∀k,(adl T J k).length=k
 | 0=>rfl
 | k+1=>by rw [adl,List.length_append,adl_length];rfl
/- Are the names free? -/
def frA (f:Nat→En) (bs:Int) (n:Nat):Nat→Bool
 | 0=>true
 | k+1=>frA f bs n k&& !(decide (bs≤(f k).bas)&&decide ((f k).bas<bs+(n:Int)))
def fre (f:Nat→En) (bs:Int) (n:Nat):Bool:=decide (n=0)||(decide (1≤bs)&&decide (bs≤32768 - (n:Int))&&frA f bs n 64)
theorem frA_le {f:Nat→En} {bs:Int} {n:Nat}:∀{k m:Nat},k≤m→frA f bs n m=true→frA f bs n k=true
 | k,0,h,e=>by obtain rfl:k=0:=(by omega);exact e
 | k,m+1,h,e=>by
  rcases Nat.lt_or_ge k (m+1) with g | g
  ·rw [frA,Bool.and_eq_true] at e;exact frA_le (by omega) e.1
  ·obtain rfl:k=m+1:=by omega
   exact e
theorem frA_bad {f:Nat→En} {bs:Int} {n k:Nat} (hk:k<64) (h:(decide (bs≤(f k).bas)&&decide ((f k).bas<bs+(n:Int)))=true):frA f bs n 64=false:=by
 cases e:frA f bs n 64 with
 | false=>rfl
 | true=>
  have:=frA_le (show k+1≤64 by omega) e;rw [frA,h] at this;simp at this
/- The error of a move; the roster behind it, the seats. -/
def mvE (f:Nat→En) (L J:List Int) (sc bs:Int):Int:=
 if ft f L J=0 then (if eok sc then (if fre f bs J.length then 0 else 3) else 19) else ft f L J
def mvT (f:Nat→En) (L J:List Int):List Nat:=(bl (nt (tk (evs f L)))).take J.length
def mvR (f:Nat→En) (L J:List Int) (sc bs:Int):Nat→En:=if mvE f L J sc bs=0 then adm (evs f L) (mvT f L J) J sc bs J.length else fun _=>zE
def mvL (f:Nat→En) (L J:List Int) (sc bs:Int):List (Int×Int):=if mvE f L J sc bs=0 then evl f L else []
def mvJ (f:Nat→En) (L J:List Int) (sc bs:Int):List (Int×Int):=if mvE f L J sc bs=0 then adl (mvT f L J) J J.length else []
open Go.RowKit Go.Maps Go.Shelf
/- Slots as integers. -/
def zs (l:List Nat):List Int:=l.map fun k=>((k:Nat):Int)
@[simp] theorem zs_length (l:List Nat):(zs l).length=l.length:=by simp [zs]
theorem below_grown {n0:Nat} {w W W':World} {row:Option Nat} (h:Below n0 w W) (hg:W.grownBy W' row) (hn:n0≤W.heap.size) (hr:∀j,row=some j→n0≤j):Below n0 w W':=
 h.trans ⟨hg.os,hg.tape,hg.output,hg.size,fun k hk=>hg.block k (by omega) (fun e=>by have:=hr k e.symm;omega)⟩
theorem grown_refl (w:World) (row:Option Nat):w.grownBy w row:=⟨rfl,rfl,rfl,Nat.le_refl _,fun _ _ _=>rfl⟩
open Go.RowKit Go.Maps
set_option maxRecDepth 100000 in
set_option maxHeartbeats 1000000 in
theorem areFree_any (f:Nat→En) (bs:Int) (n:Nat) (hn:n<1152921504606846976) (w:World):
  Calls Tryz.prog 248 #[.agg (rcs f),.int .i64 bs,.int .i64 (n:Int)] w fun e w'=>e=.returned (.bool (fre f bs n))∧Below w.heap.size w w':=by
 have HFR:Hid (fre f bs n=(decide (n=0)||(decide (1≤bs)&&decide (bs≤32768 - (n:Int))&&frA f bs n 64))):=rfl;have hR:=RoAt.new w f;have hB1:=alloc_ro w f;have hsub:IntKind.i64.wrap (32768 - (n:Int))=32768 - (n:Int):=i64_fit _ (by omega) (by omega);go_enter Tryz.func248,Tryz.ntmps248;go_upto_region 1 with (fail)
 generalize w.alloc (.cells (rcs f) 52)=w1 at *;obtain ⟨c,hc⟩:∃c,rcs f=c:=⟨_,rfl⟩;by_cases hn0:n=0
 ·subst hn0;rw [hc];go_wp2_with fail
  go_ret;exact ⟨ret_bool (by rw [HFR.out];rfl),hB1⟩
 ·have h0:¬((n:Int)=0):=by omega
  have h0':((n:Int)==0)=false:=by simp;omega
  have HD:Hid (decide (n=0)=false):=decide_eq_false hn0;by_cases h1:bs<1
  ·have HD1:Hid (decide (1≤bs)=false):=decide_eq_false (by omega);rw [hc];go_wp2_with fail
   go_ret;exact ⟨ret_bool (by rw [HFR.out,HD.out,HD1.out];rfl),hB1⟩
  ·have HD1:Hid (decide (1≤bs)=true):=decide_eq_true (by omega);by_cases h2:32768 - (n:Int)<bs
   ·have HD2:Hid (decide (bs≤32768 - (n:Int))=false):=decide_eq_false (by omega);rw [hc];go_wp2_with fail
    go_ret;exact ⟨ret_bool (by rw [HFR.out,HD.out,HD1.out,HD2.out];rfl),hB1⟩
   ·have HD2:Hid (decide (bs≤32768 - (n:Int))=true):=decide_eq_true (by omega);have hsum:IntKind.i64.wrap (bs+(n:Int))=bs+(n:Int):=i64_fit _ (by omega) (by omega);go_upto_region 5 with (fail)
    refine wp_region_lit ?_;refine ld25 hR rfl _ rfl rfl ?_;rw [hc];go_wp2_with fail
    go_loopw [20] (fun i wx=>∃k:Nat,k≤64∧i=.int .i64 (k:Int)∧Below w1.heap.size w1 wx∧frA f bs n k=true) (fun i _=>64 - (intOf i).toNat)
    case atStart=>exact ⟨0,by omega,rfl,Below.refl _ _,rfl⟩
    case round=>
     obtain ⟨k,hk,rfl,hb,hf⟩:=hrel;have HB:Hid (Below w.heap.size w wr):=hB1.trans (hb.mono hB1.size);have HBW:Hid (Below w1.heap.size w1 wr):=hb;have HF:Hid (frA f bs n k=true):=hf;clear hb hf;by_cases hk8:k<64
     ·have k8:(k:Int)<64:=by omega
      have hi:=idx25 f k hk8;rw [hc] at hi;have hBE:=alloc_en wr (f k);have HS:Hid (frA f bs n (k+1)=(frA f bs n k&& !(decide (bs≤(f k).bas)&&decide ((f k).bas<bs+(n:Int))))):=rfl;have HBAD:Hid ((decide (bs≤(f k).bas)&&decide ((f k).bas<bs+(n:Int)))=true→frA f bs n 64=false):=frA_bad hk8;have HBE:Hid (Below wr.heap.size wr (wr.alloc (.cells #[.int .i64 (f k).who,.int .i64 (f k).bas,.int .i64 (f k).snc] 50))):=hBE;generalize f k=e at *;clear hBE;by_cases g1:bs≤e.bas
      ·by_cases g2:e.bas<bs+(n:Int)
       ·go_wp2_with fail
        go_ret;exact ⟨ret_bool (by rw [HFR.out,HD.out,HD1.out,HD2.out,HBAD.out (by simp [g1,g2])];rfl),HB.out.trans (HBE.out.mono HB.out.size)⟩
       ·go_wp2_with fail
        go_roundw
        case rel=>exact ⟨k+1,by omega,by go_num,HBW.out.trans (HBE.out.mono HBW.out.size),by rw [HS.out,HF.out];simp;omega⟩
        case measure=>simp [intOf];omega
      ·go_wp2_with fail
       go_roundw
       case rel=>exact ⟨k+1,by omega,by go_num,HBW.out.trans (HBE.out.mono HBW.out.size),by rw [HS.out,HF.out];simp;omega⟩
       case measure=>simp [intOf];omega
     ·obtain rfl:k=64:=by omega
      go_wp2_with fail
      go_ret;exact ⟨ret_bool (by rw [HFR.out,HD.out,HD1.out,HD2.out,HF.out];rfl),HB.out⟩
/- Rosters that are written to. -/
theorem RoAt.set3 {w:World} {B:Nat} {f:Nat→En} (h:RoAt w B f) (k:Nat) (hk:k<64) (a b c:Int):
  RoAt (((w.setCell ⟨B,k * 3,none⟩ (.int .i64 a)).setCell ⟨B,k * 3+1,none⟩ (.int .i64 b)).setCell ⟨B,k * 3+2,none⟩ (.int .i64 c)) B (upd f k ⟨a,b,c⟩):=by
 have h3:=row_setCell (row_setCell (row_setCell h (k * 3) (.int .i64 a)) (k * 3+1) (.int .i64 b)) (k * 3+2) (.int .i64 c);rw [rcs_set f k ⟨a,b,c⟩ hk] at h3;exact h3
theorem set3_below {n:Nat} {w W:World} (h:Below n w W) {B:Nat} (hB:n≤B) (i j k:Nat) (a b c:Value):Below n w (((W.setCell ⟨B,i,none⟩ a).setCell ⟨B,j,none⟩ b).setCell ⟨B,k,none⟩ c):=
 ((h.setCell (p:=⟨B,i,none⟩) hB a).setCell (p:=⟨B,j,none⟩) hB b).setCell (p:=⟨B,k,none⟩) hB c
theorem set3_other {w:World} {B C:Nat} (h:C≠B) (i j k:Nat) (a b c:Value):(((w.setCell ⟨B,i,none⟩ a).setCell ⟨B,j,none⟩ b).setCell ⟨B,k,none⟩ c).heap[C]? =w.heap[C]? :=by
 rw [other_setCell h,other_setCell h,other_setCell h]
theorem owns_block {W W':World} {b:Nat} {e:TypeId} {sz:Nat} {v:Value} {n:Nat} {xs:List Value} (h:W.ownsRow b e sz v n xs) (hk:∀g,b≤g→g<W.heap.size→W'.heap[g]? =W.heap[g]?):W'.ownsRow b e sz v n xs:=by
 obtain ⟨h1,h2⟩:=h;refine ⟨h1,?_⟩;rcases h2 with h2 | ⟨g,cap,cur,rfl,h3,h4,r⟩
 ·exact .inl h2
 ·exact .inr ⟨g,cap,cur,rfl,h3,(hk g h3 (Array.getElem?_eq_some_iff.1 h4).1).trans h4,r⟩
theorem owns_later {W W':World} {b:Nat} {e:TypeId} {sz:Nat} {v:Value} {n:Nat} {xs:List Value} (h:W.ownsRow b e sz v n xs) (hb:Below W.heap.size W W'):W'.ownsRow b e sz v n xs:=owns_block h fun g _ hg=>hb.block g hg
theorem owns_wide {W:World} {b b':Nat} {e:TypeId} {sz:Nat} {v:Value} {n:Nat} {xs:List Value} (h:W.ownsRow b e sz v n xs) (hb:b'≤b):W.ownsRow b' e sz v n xs:=by
 obtain ⟨h1,h2⟩:=h;refine ⟨h1,?_⟩;rcases h2 with h2 | ⟨g,cap,cur,rfl,h3,r⟩
 ·exact .inl h2
 ·exact .inr ⟨g,cap,cur,rfl,by omega,r⟩
theorem owns_slice {W:World} {b:Nat} {e:TypeId} {sz:Nat} {v:Value} {n:Nat} {xs:List Value} (h:W.ownsRow b e sz v n xs):∃a cap,v=.slice a n cap:=by
 rcases h.2 with ⟨rfl,rfl⟩ | ⟨g,cap,cur,rfl,_⟩
 ·exact ⟨none,0,rfl⟩
 ·exact ⟨_,cap,rfl⟩
theorem infoSeat:(Tryz.prog.info? 165).map (fun i=>(i.zero,i.size,i.bytes))=some (some (.agg #[.int .i64 0,.int .i64 0]),2,16):=by kernel_rfl
theorem infoSeat_parts:∃i,Tryz.prog.info? 165=some i∧i.zero=some (.agg #[.int .i64 0,.int .i64 0])∧i.size=2∧i.bytes=16:=by
 have h:=infoSeat
 cases hq:Tryz.prog.info? 165 with
 | none=>rw [hq] at h;cases h
 | some i=>
  rw [hq] at h;simp at h;exact ⟨i,rfl,h.1,h.2.1,h.2.2⟩
theorem cell_two_new (w:World) (x y:Value) (t:TypeId):∀j u,[x,y][j]? =some u→(w.alloc (.cells #[x,y] t)).cell? ((⟨w.heap.size,0,none⟩:Addr).add j)=some u:=by
 intro j u hu
 match j with
 | 0=>
  rw [show (⟨w.heap.size,0,none⟩:Addr).add 0=⟨w.heap.size,0,none⟩ from rfl,cell_of_row _ _ 0 _ _ _ (heap_alloc_last w _)];exact hu
 | 1=>
  rw [show (⟨w.heap.size,0,none⟩:Addr).add 1=⟨w.heap.size,1,none⟩ from rfl,cell_of_row _ _ 1 _ _ _ (heap_alloc_last w _)];exact hu
 | j+2=>simp at hu
theorem zero25:Tryz.zeroCells52=rcs fun _=>zE:=by kernel_rfl
theorem results_ro2 {fn:Func} {p t:Tmp} (hf:fn.results=#[.cell p 52,.tmp t]) (tmps:Array Value) (W:World) (B:Nat) (f:Nat→En) (hp:tmps[p]? =some (.pointer (some ⟨B,0,none⟩))) (hb:RoAt W B f):
  (results fn tmps).run Tryz.prog W=.ok (.tuple #[.agg (rcs f),tmps.getD t undef]) W:=by
 have h:=run_loadVar_row W B _ 52 _ _ _ hb Tryz.underlying52 rfl (by rw [rcs_size];exact info25);simp [results,hf,hp,asAddr,h]
end Go.Proofs.YtoimkngkcliinaaGreatDoor.Rs
