/- WiA, WiB, WiE, WiC, WiD, WiR, joined. -/
import Derived.Test.YtoimkngkcliinaaGreatDoorJWiMath2
import Derived.Test.YtoimkngkcliinaaGreatDoorJKeyMath
import Derived.WalkLawsBesides
namespace Go.Proofs.YtoimkngkcliinaaGreatDoor.Wi
open Go.RowKit Go.Maps
open Rt (gd)
open Sh (belB par par_bd belB_up belB_at belB_no' nodeB_no)
set_option linter.unusedVariables false
set_option maxRecDepth 4000
set_option linter.unusedSimpArgs false
theorem goodEpoch_any (n:Int) (w:World):Calls Tryz.prog 279 #[.int .i64 n] w fun e w'=>e=.returned (.bool (gE n))∧w'=w:=by
 by_cases h0:1≤n
 ·by_cases h1:n≤200
  ·go_enter Tryz.func279,Tryz.ntmps279;go_wp2
   go_ret;exact ⟨ret_bool (by simp [gE,h0,h1]),rfl⟩
  ·go_enter Tryz.func279,Tryz.ntmps279;go_wp2
   go_ret;exact ⟨ret_bool (by simp [gE,h0,h1]),rfl⟩
 ·go_enter Tryz.func279,Tryz.ntmps279;go_wp2
  go_ret;exact ⟨ret_bool (by simp [gE];omega),rfl⟩
theorem rEpoch_any (n:Int) (w:World):Calls Tryz.prog 151 #[.int .i64 n] w fun e w'=>e=.returned (.bool (gE n))∧w'=w:=by
 by_cases h0:1≤n
 ·by_cases h1:n≤200
  ·go_enter Tryz.func151,Tryz.ntmps151;go_wp2
   go_ret;exact ⟨ret_bool (by simp [gE,h0,h1]),rfl⟩
  ·go_enter Tryz.func151,Tryz.ntmps151;go_wp2
   go_ret;exact ⟨ret_bool (by simp [gE,h0,h1]),rfl⟩
 ·go_enter Tryz.func151,Tryz.ntmps151;go_wp2
  go_ret;exact ⟨ret_bool (by simp [gE];omega),rfl⟩
theorem goodWho_any (n:Int) (w:World):Calls Tryz.prog 284 #[.int .i64 n] w fun e w'=>e=.returned (.bool (gW n))∧w'=w:=by
 by_cases h0:0≤n
 ·by_cases h1:n<256
  ·go_enter Tryz.func284,Tryz.ntmps284;go_wp2
   go_ret;exact ⟨ret_bool (by simp [gW,h0,h1]),rfl⟩
  ·go_enter Tryz.func284,Tryz.ntmps284;go_wp2
   go_ret;exact ⟨ret_bool (by simp [gW,h0,h1]),rfl⟩
 ·go_enter Tryz.func284,Tryz.ntmps284;go_wp2
  go_ret;exact ⟨ret_bool (by simp [gW];omega),rfl⟩
theorem rPerson_any (n:Int) (w:World):Calls Tryz.prog 154 #[.int .i64 n] w fun e w'=>e=.returned (.bool (gW n))∧w'=w:=by
 by_cases h0:0≤n
 ·by_cases h1:n<256
  ·go_enter Tryz.func154,Tryz.ntmps154;go_wp2
   go_ret;exact ⟨ret_bool (by simp [gW,h0,h1]),rfl⟩
  ·go_enter Tryz.func154,Tryz.ntmps154;go_wp2
   go_ret;exact ⟨ret_bool (by simp [gW,h0,h1]),rfl⟩
 ·go_enter Tryz.func154,Tryz.ntmps154;go_wp2
  go_ret;exact ⟨ret_bool (by simp [gW];omega),rfl⟩
def gL (n:Int):Bool:=decide (0≤n)&&decide (n<64)
theorem rSlot_any (n:Int) (w:World):Calls Tryz.prog 155 #[.int .i64 n] w fun e w'=>e=.returned (.bool (gL n))∧w'=w:=by
 by_cases h0:0≤n
 ·by_cases h1:n<64
  ·go_enter Tryz.func155,Tryz.ntmps155;go_wp2
   go_ret;exact ⟨ret_bool (by simp [gL,h0,h1]),rfl⟩
  ·go_enter Tryz.func155,Tryz.ntmps155;go_wp2
   go_ret;exact ⟨ret_bool (by simp [gL,h0,h1]),rfl⟩
 ·go_enter Tryz.func155,Tryz.ntmps155;go_wp2
  go_ret;exact ⟨ret_bool (by simp [gL];omega),rfl⟩
theorem goodSeat_any (s:Int×Int) (w:World):Calls Tryz.prog 281 #[.agg #[.int .i64 s.1,.int .i64 s.2]] w fun e w'=>e=.returned (.bool (gS s))∧Below w.heap.size w w':=by
 obtain ⟨a,b⟩:=s;dsimp only;have hW:=goodWho_any a
 cases hw:gW a with
 | false=>
  rw [hw] at hW;have HE:Hid (gS (a,b)=false):=by unfold Hid gS;rw [hw];rfl
  clear hw;go_enter Tryz.func281,Tryz.ntmps281;go_wp2_with (go_at_call 284;refine (hW _).mono ?_;rintro r w' ⟨rfl,rfl⟩)
  go_ret;exact ⟨ret_bool HE.out.symm,below_alloc _ _⟩
 | true=>
  rw [hw] at hW;have HE:Hid (gS (a,b)=(decide (0≤b)&&decide (b<64))):=by unfold Hid gS;rw [hw];rfl
  clear hw;by_cases h0:0≤b
  ·by_cases h1:b<64
   ·go_enter Tryz.func281,Tryz.ntmps281;go_wp2_with (go_at_call 284;refine (hW _).mono ?_;rintro r w' ⟨rfl,rfl⟩)
    go_ret;exact ⟨ret_bool (by rw [HE.out];simp [h0,h1]),below_alloc _ _⟩
   ·have d1:decide (b<64)=false:=by simp;omega
    go_enter Tryz.func281,Tryz.ntmps281;go_wp2_with (go_at_call 284;refine (hW _).mono ?_;rintro r w' ⟨rfl,rfl⟩)
    go_ret;exact ⟨ret_bool (by rw [HE.out];simp [h0,h1]),below_alloc _ _⟩
  ·have d1:decide (0≤b)=false:=by simp;omega
   go_enter Tryz.func281,Tryz.ntmps281;go_wp2_with (go_at_call 284;refine (hW _).mono ?_;rintro r w' ⟨rfl,rfl⟩)
   go_ret;exact ⟨ret_bool (by rw [HE.out,d1];rfl),below_alloc _ _⟩
theorem goodBox_any (b:(Int×Int)×(Int×Int)) (w:World):Calls Tryz.prog 286 #[.agg #[.int .i64 b.1.1,.int .i64 b.1.2,.int .i64 b.2.1,.int .i64 b.2.2]] w fun e w'=>e=.returned (.bool (gB b))∧Below w.heap.size w w':=by
 obtain ⟨⟨a1,a2⟩,b1,b2⟩:=b;dsimp only;have h1:=Rt.good_any a1 a2;have h2:=Rt.good_any b1 b2
 cases e1:gd a1 a2 with
 | false=>
  rw [e1] at h1;have HE:Hid (gB ((a1,a2),(b1,b2))=false):=by unfold Hid gB gK;dsimp only;rw [e1];rfl
  clear e1 h2;go_enter Tryz.func286,Tryz.ntmps286;go_wp2_with fail
  refine (h1 _).mono ?_;rintro r w' ⟨rfl,rfl⟩;go_wp2_with fail
  go_ret;exact ⟨ret_bool HE.out.symm,Below.plus (below_alloc _ _) _⟩
 | true=>
  rw [e1] at h1;have HE:Hid (gB ((a1,a2),(b1,b2))=gd b1 b2):=by unfold Hid gB gK;dsimp only;rw [e1];rfl
  clear e1;obtain ⟨g,hg⟩:∃g,gd b1 b2=g:=⟨_,rfl⟩;rw [hg] at h2 HE;rw [HE.out];clear hg HE;go_enter Tryz.func286,Tryz.ntmps286;go_wp2_with fail
  refine (h1 _).mono ?_;rintro r w' ⟨rfl,rfl⟩;go_wp2_with fail
  refine (h2 _).mono ?_;rintro r w' ⟨rfl,rfl⟩;go_wp2_with fail
  go_ret;exact ⟨by cases g <;> rfl,Below.plus (Below.plus (below_alloc _ _) _) _⟩
theorem rGoodBox_any (b:(Int×Int)×(Int×Int)) (w:World):Calls Tryz.prog 153 #[.agg #[.int .i64 b.1.1,.int .i64 b.1.2,.int .i64 b.2.1,.int .i64 b.2.2]] w fun e w'=>e=.returned (.bool (gB b))∧Below w.heap.size w w':=by
 obtain ⟨⟨a1,a2⟩,b1,b2⟩:=b;dsimp only;have h1:=Rt.rGood_any a1 a2;have h2:=Rt.rGood_any b1 b2
 cases e1:gd a1 a2 with
 | false=>
  rw [e1] at h1;have HE:Hid (gB ((a1,a2),(b1,b2))=false):=by unfold Hid gB gK;dsimp only;rw [e1];rfl
  clear e1 h2;go_enter Tryz.func153,Tryz.ntmps153;go_wp2_with fail
  refine (h1 _).mono ?_;rintro r w' ⟨rfl,rfl⟩;go_wp2_with fail
  go_ret;exact ⟨ret_bool HE.out.symm,Below.plus (below_alloc _ _) _⟩
 | true=>
  rw [e1] at h1;have HE:Hid (gB ((a1,a2),(b1,b2))=gd b1 b2):=by unfold Hid gB gK;dsimp only;rw [e1];rfl
  clear e1;obtain ⟨g,hg⟩:∃g,gd b1 b2=g:=⟨_,rfl⟩;rw [hg] at h2 HE;rw [HE.out];clear hg HE;go_enter Tryz.func153,Tryz.ntmps153;go_wp2_with fail
  refine (h1 _).mono ?_;rintro r w' ⟨rfl,rfl⟩;go_wp2_with fail
  refine (h2 _).mono ?_;rintro r w' ⟨rfl,rfl⟩;go_wp2_with fail
  go_ret;exact ⟨by cases g <;> rfl,Below.plus (Below.plus (below_alloc _ _) _) _⟩
theorem dpr_no {v u:Int} (h:u≤v∨85≤u) (h0:0≤v) (h1:v<85):dpr v u=false:=by
 unfold dpr;by_cases hu:0≤u∧u<85
 ·rw [belB_at hu.1 (by omega) h1];by_cases e:u=v
  ·simp [e]
  ·simp [e]
 ·rw [belB_no' (nodeB_no (by omega))];rfl
theorem deeper_any (v u:Int) (h0:0≤v) (h1:v<21) (w:World):Calls Tryz.prog 327 #[.int .i64 v,.int .i64 u] w fun e w'=>e=.returned (.bool (dpr v u))∧w'=w:=by
 by_cases hu:u≤v
 ·have HE:Hid (dpr v u=false):=dpr_no (.inl hu) h0 (by omega);go_enter Tryz.func327,Tryz.ntmps327;go_wp2
  go_ret;exact ⟨ret_bool HE.out.symm,rfl⟩
 ·by_cases hu2:85≤u
  ·have HE:Hid (dpr v u=false):=dpr_no (.inr hu2) h0 (by omega);go_enter Tryz.func327,Tryz.ntmps327;go_wp2
   go_ret;exact ⟨ret_bool HE.out.symm,rfl⟩
  ·have HE:Hid (dpr v u=belB v u):=by
    unfold Hid dpr;rw [decide_eq_true (show u≠v by omega),Bool.and_true]
   go_enter Tryz.func327,Tryz.ntmps327;go_wp2
   go_loop [1] (fun b=>∃x:Int,0≤x∧x<85∧Hid (belB v x=belB v u)∧b=.int .i64 x) (fun b=>(intOf b).toNat)
   case atStart=>exact ⟨u,by omega,by omega,rfl,rfl⟩
   case round=>
    obtain ⟨x,hx0,hx1,hm,rfl⟩:=hrel;by_cases hlt:v<x
    ·have hp:par x=(x - 1)/4:=by unfold par;rw [if_pos (by omega)]
     have hq:Hid (belB v ((x - 1)/4)=belB v u):=by unfold Hid;rw [←hp,←belB_up h0 hlt hx1,hm.out]
     have htd:(x - 1).tdiv 4=(x - 1)/4:=Int.tdiv_eq_ediv_of_nonneg (by omega);clear hp hu hu2;go_wp2
     go_round
     case rel=>exact ⟨(x - 1)/4,by omega,by omega,hq,by first | rfl | (rw [htd]) | go_num⟩
     case measure=>simp [intOf];omega
    ·have hq:Hid ((x==v)=belB v u):=by unfold Hid;rw [←hm.out,belB_at hx0 (by omega) (by omega)]
     go_wp2
     go_ret;exact ⟨ret_bool (by rw [HE.out];exact hq.out),rfl⟩
theorem goodItem_any (i:(Int×Int)×((Int×Int)×(Int×Int))) (w:World):Calls Tryz.prog 283 #[.agg #[.int .i64 i.1.1,.int .i64 i.1.2,.int .i64 i.2.1.1,.int .i64 i.2.1.2,.int .i64 i.2.2.1,.int .i64 i.2.2.2]] w fun e w'=>e=.returned (.bool (gI i))∧Below w.heap.size w w':=by
 obtain ⟨⟨v,u⟩,b⟩:=i;dsimp only;by_cases h0:0≤v
 ·by_cases h1:v<21
  ·have hD:=deeper_any v u h0 h1;have HE:Hid (gI ((v,u),b)=(dpr v u&&gB b)):=by unfold Hid gI;dsimp only;rw [decide_eq_true h0,decide_eq_true h1];rfl
   have hB:=goodBox_any b;rw [HE.out];clear HE
   cases hd:dpr v u with
   | false=>
    rw [hd] at hD;clear hd hB;go_enter Tryz.func283,Tryz.ntmps283;go_wp2_with (go_at_call 327;refine (hD _).mono ?_;rintro r w' ⟨rfl,rfl⟩)
    go_ret;exact ⟨rfl,below_alloc _ _⟩
   | true=>
    rw [hd] at hD;clear hd;rw [Bool.true_and];obtain ⟨g,hg⟩:∃g,gB b=g:=⟨_,rfl⟩;rw [hg] at hB;rw [hg];clear hg;go_enter Tryz.func283,Tryz.ntmps283;go_wp2_with (go_at_call 327;refine (hD _).mono ?_;rintro r w' ⟨rfl,rfl⟩)
    refine (hB _).mono ?_;rintro r w2 ⟨rfl,hb2⟩;have HB:Hid (Below w.heap.size w w2):=Below.join (below_alloc _ _) hb2;clear hb2;go_wp2_with fail
    go_ret;exact ⟨by cases g <;> rfl,HB.out⟩
  ·have HE:Hid (gI ((v,u),b)=false):=by unfold Hid gI;dsimp only;rw [decide_eq_false h1,Bool.and_false];rfl
   go_enter Tryz.func283,Tryz.ntmps283;go_wp2
   go_ret;exact ⟨ret_bool HE.out.symm,below_alloc _ _⟩
 ·have HE:Hid (gI ((v,u),b)=false):=by unfold Hid gI;dsimp only;rw [decide_eq_false h0];rfl
  go_enter Tryz.func283,Tryz.ntmps283;go_wp2
  go_ret;exact ⟨ret_bool HE.out.symm,below_alloc _ _⟩
theorem all_nx {α:Type} {p:α→Bool} {l:List α} {k:Nat} (h:k<l.length) (h1:∀x∈l.take k,p x=true) (h2:p l[k]=true):∀x∈l.take (k+1),p x=true:=fun x hx=>by
 rw [List.take_succ_eq_append_getElem h] at hx;rcases List.mem_append.1 hx with hx | hx
 ·exact h1 x hx
 ·simp only [List.mem_cons,List.not_mem_nil,or_false] at hx;rw [hx];exact h2
theorem all_no {α:Type} {p:α→Bool} {l:List α} {k:Nat} (h:k<l.length) (h2:p l[k]=false):l.all p=false:=by
 rw [Bool.eq_false_iff];intro ha;rw [List.all_eq_true] at ha;rw [ha l[k] (List.getElem_mem h)] at h2;cases h2
theorem all_yes {α:Type} {p:α→Bool} {l:List α} (h:∀x∈l.take l.length,p x=true):l.all p=true:=by
 rw [List.take_length] at h;exact List.all_eq_true.2 h
set_option maxRecDepth 100000 in
theorem allS_any (a:Option Addr) (c mx:Nat) (l:List (Int×Int)) (w:World) (rd:RdV stl 2 w a l) (hl:l.length<4611686018427387904) (hmx:mx≤4096):
  Calls Tryz.prog 280 #[.slice a l.length c,.int .i64 (mx:Int),.func (.func 281) #[] #[]] w fun e w'=>e=.returned (.bool (decide (l.length≤mx)&&l.all gS))∧Below w.heap.size w w':=by
 obtain ⟨n,hn⟩:∃n,l.length=n:=⟨_,rfl⟩;have HN:Hid (l.length=n):=hn;rw [hn] at hl;rw [hn];clear hn;by_cases hm:n≤mx
 ·have HE:Hid ((decide (n≤mx)&&l.all gS)=l.all gS):=by unfold Hid;rw [decide_eq_true hm,Bool.true_and]
  rw [HE.out];have d1:decide ((mx:Int)<(n:Int))=false:=by simp;omega
  have d2:¬(mx:Int)<(n:Int):=by omega
  clear HE;go_enter Tryz.func280,Tryz.ntmps280;go_wp2_with fail
  go_loopw [15] (fun i wx=>∃k:Nat,k≤n∧i=.int .i64 (k:Int)∧(∀x∈l.take k,gS x=true)∧Below w.heap.size w wx) (fun i _=>n - (intOf i).toNat)
  case atStart=>exact ⟨0,by omega,rfl,by simp,Below.refl _ _⟩
  case round=>
   obtain ⟨k,hk,rfl,hA,hb⟩:=hrel;have HA:Hid (∀x∈l.take k,gS x=true):=hA;have HB:Hid (Below w.heap.size w wr):=hb;clear hA hb;by_cases hkn:k<n
   ·have hkl:k<l.length:=by rw [HN.out];exact hkn
    obtain ⟨b,o,rfl,hr⟩:=rd k hkl;have hr:=ra_later hr HB.out;unfold stl at hr;have i1:(0:Int)≤(k:Int):=by omega
    have i2:(k:Int)<(n:Int):=by omega
    have hC:=goodSeat_any l[k]
    cases hg:gS l[k] with
    | false=>
     rw [hg] at hC;have HE:Hid (l.all gS=false):=all_no hkl hg;generalize l[k]=p at *;clear hg;go_wp2_with (refine ldM hr Tryz.underlying165 rfl szSeat _ rfl rfl rfl ?_)
     refine (hC _).mono ?_;rintro r w2 ⟨rfl,hb2⟩;have HB2:Hid (Below w.heap.size w w2):=Below.join (Below.plus HB.out _) hb2;clear hb2 hC;go_wp2_with fail
     go_ret;exact ⟨ret_bool HE.out.symm,HB2.out⟩
    | true=>
     rw [hg] at hC;have HA2:Hid (∀x∈l.take (k+1),gS x=true):=all_nx hkl HA.out hg;generalize l[k]=p at *;clear hg;go_wp2_with (refine ldM hr Tryz.underlying165 rfl szSeat _ rfl rfl rfl ?_)
     refine (hC _).mono ?_;rintro r w2 ⟨rfl,hb2⟩;have HB2:Hid (Below w.heap.size w w2):=Below.join (Below.plus HB.out _) hb2;clear hb2 hC;go_wp2_with fail
     go_roundw
     case rel=>exact ⟨k+1,by omega,by go_num,HA2.out,HB2.out⟩
     case measure=>simp [intOf];omega
   ·have hkn':decide ((k:Int)<(n:Int))=false:=by simp;omega
    have HE:Hid (l.all gS=true):=all_yes (by rw [HN.out];have:k=n:=(by omega);rw [←this];exact HA.out);go_wp2_with fail
    go_ret;exact ⟨ret_bool HE.out.symm,HB.out⟩
 ·have HE:Hid ((decide (n≤mx)&&l.all gS)=false):=by unfold Hid;rw [decide_eq_false hm];rfl
  rw [HE.out];have d1:(mx:Int)<(n:Int):=by omega
  clear HE;go_enter Tryz.func280,Tryz.ntmps280;go_wp2_with fail
  go_ret;exact ⟨rfl,Below.refl _ _⟩
set_option maxRecDepth 100000 in
theorem allI_any (a:Option Addr) (c mx:Nat) (l:List ((Int×Int)×((Int×Int)×(Int×Int)))) (w:World) (rd:RdV itl 6 w a l) (hl:l.length<4611686018427387904) (hmx:mx≤4096):
  Calls Tryz.prog 282 #[.slice a l.length c,.int .i64 (mx:Int),.func (.func 283) #[] #[]] w fun e w'=>e=.returned (.bool (decide (l.length≤mx)&&l.all gI))∧Below w.heap.size w w':=by
 obtain ⟨n,hn⟩:∃n,l.length=n:=⟨_,rfl⟩;have HN:Hid (l.length=n):=hn;rw [hn] at hl;rw [hn];clear hn;by_cases hm:n≤mx
 ·have HE:Hid ((decide (n≤mx)&&l.all gI)=l.all gI):=by unfold Hid;rw [decide_eq_true hm,Bool.true_and]
  rw [HE.out];have d1:decide ((mx:Int)<(n:Int))=false:=by simp;omega
  have d2:¬(mx:Int)<(n:Int):=by omega
  clear HE;go_enter Tryz.func282,Tryz.ntmps282;go_wp2_with fail
  go_loopw [15] (fun i wx=>∃k:Nat,k≤n∧i=.int .i64 (k:Int)∧(∀x∈l.take k,gI x=true)∧Below w.heap.size w wx) (fun i _=>n - (intOf i).toNat)
  case atStart=>exact ⟨0,by omega,rfl,by simp,Below.refl _ _⟩
  case round=>
   obtain ⟨k,hk,rfl,hA,hb⟩:=hrel;have HA:Hid (∀x∈l.take k,gI x=true):=hA;have HB:Hid (Below w.heap.size w wr):=hb;clear hA hb;by_cases hkn:k<n
   ·have hkl:k<l.length:=by rw [HN.out];exact hkn
    obtain ⟨b,o,rfl,hr⟩:=rd k hkl;have hr:=ra_later hr HB.out;unfold itl at hr;have i1:(0:Int)≤(k:Int):=by omega
    have i2:(k:Int)<(n:Int):=by omega
    have hC:=goodItem_any l[k]
    cases hg:gI l[k] with
    | false=>
     rw [hg] at hC;have HE:Hid (l.all gI=false):=all_no hkl hg;generalize l[k]=p at *;clear hg;go_wp2_with (refine ldM hr Tryz.underlying121 rfl szItem _ rfl rfl rfl ?_)
     refine (hC _).mono ?_;rintro r w2 ⟨rfl,hb2⟩;have HB2:Hid (Below w.heap.size w w2):=Below.join (Below.plus HB.out _) hb2;clear hb2 hC;go_wp2_with fail
     go_ret;exact ⟨ret_bool HE.out.symm,HB2.out⟩
    | true=>
     rw [hg] at hC;have HA2:Hid (∀x∈l.take (k+1),gI x=true):=all_nx hkl HA.out hg;generalize l[k]=p at *;clear hg;go_wp2_with (refine ldM hr Tryz.underlying121 rfl szItem _ rfl rfl rfl ?_)
     refine (hC _).mono ?_;rintro r w2 ⟨rfl,hb2⟩;have HB2:Hid (Below w.heap.size w w2):=Below.join (Below.plus HB.out _) hb2;clear hb2 hC;go_wp2_with fail
     go_roundw
     case rel=>exact ⟨k+1,by omega,by go_num,HA2.out,HB2.out⟩
     case measure=>simp [intOf];omega
   ·have hkn':decide ((k:Int)<(n:Int))=false:=by simp;omega
    have HE:Hid (l.all gI=true):=all_yes (by rw [HN.out];have:k=n:=(by omega);rw [←this];exact HA.out);go_wp2_with fail
    go_ret;exact ⟨ret_bool HE.out.symm,HB.out⟩
 ·have HE:Hid ((decide (n≤mx)&&l.all gI)=false):=by unfold Hid;rw [decide_eq_false hm];rfl
  rw [HE.out];have d1:(mx:Int)<(n:Int):=by omega
  clear HE;go_enter Tryz.func282,Tryz.ntmps282;go_wp2_with fail
  go_ret;exact ⟨rfl,Below.refl _ _⟩
set_option maxRecDepth 100000
theorem run_eqPr (T:TypeId) {w:World} (d:Nat) (x y:Int×Int) (h:T=46∨T=165∨T=83):(Op.equalIn (d+2) T (.agg (stl x).toArray) (.agg (stl y).toArray)).run Tryz.prog w=.ok (decide (x=y)) w:=by
 obtain ⟨a,b⟩:=x;obtain ⟨c,e⟩:=y;unfold stl;rcases h with rfl | rfl | rfl <;> rw [run_equalIn_agg w (d+1) _ _ _ (by kernel_rfl) (by kernel_rfl)] <;> by_cases h1:a=c <;> by_cases h2:b=e <;> simp [go_sem,part,h1,h2]
theorem run_eqBx {w:World} (d:Nat) (x y:(Int×Int)×(Int×Int)):(Op.equalIn (d+3) 85 (.agg (bxl x).toArray) (.agg (bxl y).toArray)).run Tryz.prog w=.ok (decide (x=y)) w:=by
 obtain ⟨⟨a,b⟩,c,e⟩:=x;obtain ⟨⟨a',b'⟩,c',e'⟩:=y;unfold bxl;rw [run_equalIn_agg w (d+2) _ _ _ (by kernel_rfl) (by kernel_rfl)];by_cases h1:a=a' <;> by_cases h2:b=b' <;> by_cases h3:c=c' <;> by_cases h4:e=e' <;> simp [go_sem,part,h1,h2,h3,h4]
theorem run_eqIm {w:World} (d:Nat) (x y:(Int×Int)×((Int×Int)×(Int×Int))):(Op.equalIn (d+4) 121 (.agg (itl x).toArray) (.agg (itl y).toArray)).run Tryz.prog w=.ok (decide (x=y)) w:=by
 obtain ⟨⟨v,u⟩,bx⟩:=x;obtain ⟨⟨v',u'⟩,bx'⟩:=y;have e1:=run_eqBx (w:=w) d bx bx';unfold bxl at e1;unfold itl;rw [run_equalIn_agg w (d+3) _ _ _ (by kernel_rfl) (by kernel_rfl)];obtain ⟨⟨a,b⟩,c,e⟩:=bx;obtain ⟨⟨a',b'⟩,c',e'⟩:=bx';clear e1;by_cases h1:v=v' <;> by_cases h2:u=u' <;> simp [go_sem,part,h1,h2]
 by_cases h1:a=a' <;> by_cases h2:b=b' <;> by_cases h3:c=c' <;> by_cases h4:e=e' <;> simp [go_sem,part,h1,h2,h3,h4]
theorem bl_iff {X Y:ByteArray}:X.toList=Y.toList↔X=Y:=by
 rw [ByteArray.toList_eq,ByteArray.toList_eq];exact ⟨fun e=>ByteArray.ext (Array.ext' e),fun e=>by rw [e]⟩
theorem run_eqSd {w:World} (d:Nat) (x y:Int×((Int×Int)×ByteArray)):(Op.equalIn (d+3) 90 (.agg (sdl x).toArray) (.agg (sdl y).toArray)).run Tryz.prog w=.ok (decide (x=y)) w:=by
 obtain ⟨a,⟨b,c⟩,s⟩:=x;obtain ⟨a',⟨b',c'⟩,s'⟩:=y;unfold sdl;rw [run_equalIn_agg w (d+2) _ _ _ (by kernel_rfl) (by kernel_rfl)];by_cases h1:a=a' <;> by_cases h2:b=b' <;> by_cases h3:c=c' <;> by_cases h4:s=s' <;> simp [go_sem,part,h1,h2,h3,h4,bl_iff]
def pal (x y z:(Int×Int)×(Int×Int)):List Value:=[.int .i64 x.1.1,.int .i64 x.1.2,.int .i64 x.2.1,.int .i64 x.2.2,.int .i64 y.1.1,.int .i64 y.1.2,.int .i64 y.2.1,.int .i64 y.2.2,.int .i64 z.1.1,.int .i64 z.1.2,.int .i64 z.2.1,.int .i64 z.2.2]
theorem info_bx:(Tryz.prog.info? 85).isSome=true:=by kernel_rfl
theorem cells_bx:Tryz.prog.cellsOf 85=4:=by kernel_rfl
theorem run_eqPt {w:World} (d:Nat) (x y z x' y' z':(Int×Int)×(Int×Int)):(Op.equalIn (d+4) 86 (.agg (pal x y z).toArray) (.agg (pal x' y' z').toArray)).run Tryz.prog w=.ok (decide (x=x')&&(decide (y=y')&&decide (z=z'))) w:=by
 obtain ⟨i,hi⟩:=Option.isSome_iff_exists.mp info_bx;rw [run_equalIn_array w (d+3) _ _ Tryz.underlying86 hi,cells_bx];have h1:=run_eqBx (w:=w) d x x';have h2:=run_eqBx (w:=w) d y y';have h3:=run_eqBx (w:=w) d z z';unfold bxl at h1 h2 h3;unfold pal;obtain ⟨a,ha⟩:∃a,decide (x=x')=a:=⟨_,rfl⟩;obtain ⟨b,hb⟩:∃a,decide (y=y')=a:=⟨_,rfl⟩;obtain ⟨c,hc⟩:∃a,decide (z=z')=a:=⟨_,rfl⟩;rw [ha] at h1;rw [hb] at h2;rw [hc] at h3;rw [ha,hb,hc];cases a <;> cases b <;> cases c <;> simp [List.range,List.range.loop,Op.eqItems,Sem.run_bind,Sem.run_ite,part,Result.andThen_ok,h1,h2,h3]
theorem run_eqRp {w:World} (d:Nat) (p q:(Int×Int)×(Int×(((Int×Int)×(Int×Int))×(((Int×Int)×(Int×Int))×((Int×Int)×(Int×Int)))))):(Op.equalIn (d+5) 88 (.agg (rpl p).toArray) (.agg (rpl q).toArray)).run Tryz.prog w=.ok (decide (p=q)) w:=by
 obtain ⟨⟨a,b⟩,c,x,y,z⟩:=p;obtain ⟨⟨a',b'⟩,c',x',y',z'⟩:=q;have h:=run_eqPt (w:=w) d x y z x' y' z';unfold pal at h;unfold rpl;rw [run_equalIn_agg w (d+4) _ _ _ (by kernel_rfl) (by kernel_rfl)]
 have e:decide ((((a,b),c,x,y,z):(Int×Int)×(Int×(((Int×Int)×(Int×Int))×(((Int×Int)×(Int×Int))×((Int×Int)×(Int×Int))))))=((a',b'),c',x',y',z'))=(decide (a=a')&&(decide (b=b')&&(decide (c=c')&&(decide (x=x')&&(decide (y=y')&&decide (z=z')))))):=by
  simp [and_assoc]
 rw [e];obtain ⟨g,hg⟩:∃g,(decide (x=x')&&(decide (y=y')&&decide (z=z')))=g:=⟨_,rfl⟩;rw [hg] at h;rw [hg];clear hg e;cases g <;> by_cases h1:a=a' <;> by_cases h2:b=b' <;> by_cases h3:c=c' <;> simp [go_sem,part,h,h1,h2,h3]
/- The arms of the walk. -/
theorem eqX {T:TypeId} {w:World} {cx cy:Array Value} {b:Bool} {ops:Array Oper} {rest:List Oper} {o:Oper} {a:Act} {Q:Exit→Act→World→Prop} (h:(Op.equalIn 10000 T (.agg cx) (.agg cy)).run Tryz.prog w=.ok b w) (hgt:Tryz.prog.eqGuardType Tryz.prog.depth T=false) (x y:Operand) (ho:o.op=.binOp .eql T x y T)
  (hx:a.eval x=.agg cx) (hy:a.eval y=.agg cy) (hw:Region.wanted o (yielded ops a.tmps)=true) (k:wpList Tryz.prog ops Q rest (a.put o.dst (.bool b)) w):wpList Tryz.prog ops Q (o::rest) a w:=by
 refine rd_guard hw ?_ k;have h1:=run_eqGuard_agg (P:=Tryz.prog) w .eql T x y cx cy hgt;have h2:=run_eql_struct (P:=Tryz.prog) w T cx cy;rw [h] at h2;simp [execOp,ho,hx,hy,h1,h2,Sem.run_bind,Result.andThen]
theorem ne_exec {T:TypeId} {w:World} {cx cy:Array Value} {b:Bool} {o:Oper} {a:Act} {x y:Operand} (h:(Op.equalIn 10000 T (.agg cx) (.agg cy)).run Tryz.prog w=.ok b w) (hgt:Tryz.prog.eqGuardType Tryz.prog.depth T=false) (ho:o.op=.binOp .neq T x y T)
  (hx:a.eval x=.agg cx) (hy:a.eval y=.agg cy):(execOp a.eval o).run Tryz.prog w=.ok (.value (.bool (!b))) w:=by
 have h1:=run_eqGuard_agg (P:=Tryz.prog) w .neq T x y cx cy hgt;have h2:=run_neq_struct (P:=Tryz.prog) w T cx cy;rw [h] at h2;simp [execOp,ho,hx,hy,h1,h2,Sem.run_bind,Result.andThen]
theorem c4 {w:World} {B:Nat} {a b c d:Value} {t:TypeId} (h:w.heap[B]? =some (.cells #[a,b,c,d] t (0,0))):w.cell? ⟨B,0,none⟩=some a∧w.cell? ⟨B,1,none⟩=some b∧w.cell? ⟨B,2,none⟩=some c∧w.cell? ⟨B,3,none⟩=some d:=
 ⟨cell_of_row w B 0 _ _ _ h,cell_of_row w B 1 _ _ _ h,cell_of_row w B 2 _ _ _ h,cell_of_row w B 3 _ _ _ h⟩
set_option maxRecDepth 100000 in
theorem goodRekey_any (r:Int×(List (Int×Int)×(List (Int×Int)×List ((Int×Int)×((Int×Int)×(Int×Int)))))) (aL aJ aI:Option Addr) (cL cJ cI:Nat) (w:World) (rL:RdV stl 2 w aL r.2.1) (rJ:RdV stl 2 w aJ r.2.2.1) (rI:RdV itl 6 w aI r.2.2.2) (nL:r.2.1.length<4611686018427387904) (nJ:r.2.2.1.length<4611686018427387904) (nI:r.2.2.2.length<4611686018427387904):
  Calls Tryz.prog 210 #[.agg (rkl r.1 (.slice aL r.2.1.length cL) (.slice aJ r.2.2.1.length cJ) (.slice aI r.2.2.2.length cI)).toArray] w fun e w'=>e=.returned (.bool (gR r))∧Below w.heap.size w w':=by
 obtain ⟨e,L,J,I⟩:=r;dsimp only at *;have HG:Hid (gR (e,L,J,I)=(gE e&&((decide (L.length≤64)&&L.all gS)&&((decide (J.length≤64)&&J.all gS)&&(decide (I.length≤1536)&&I.all gI))))):=rfl;have hE:=goodEpoch_any e;have h1:∀W,Below w.heap.size w W→Calls Tryz.prog 280 #[.slice aL L.length cL,.int .i64 64,.func (.func 281) #[] #[]] W fun e w'=>e=.returned (.bool (decide (L.length≤64)&&L.all gS))∧Below W.heap.size W w':=fun W hb=>allS_any aL cL 64 L W (rL.later hb) nL (by omega)
 have h2:∀W,Below w.heap.size w W→Calls Tryz.prog 280 #[.slice aJ J.length cJ,.int .i64 64,.func (.func 281) #[] #[]] W fun e w'=>e=.returned (.bool (decide (J.length≤64)&&J.all gS))∧Below W.heap.size W w':=fun W hb=>allS_any aJ cJ 64 J W (rJ.later hb) nJ (by omega)
 have h3:∀W,Below w.heap.size w W→Calls Tryz.prog 282 #[.slice aI I.length cI,.int .i64 1536,.func (.func 283) #[] #[]] W fun e w'=>e=.returned (.bool (decide (I.length≤1536)&&I.all gI))∧Below W.heap.size W w':=fun W hb=>allI_any aI cI 1536 I W (rI.later hb) nI (by omega)
 obtain ⟨b1,e1⟩:∃b,(decide (L.length≤64)&&L.all gS)=b:=⟨_,rfl⟩;obtain ⟨b2,e2⟩:∃b,(decide (J.length≤64)&&J.all gS)=b:=⟨_,rfl⟩;obtain ⟨b3,e3⟩:∃b,(decide (I.length≤1536)&&I.all gI)=b:=⟨_,rfl⟩;obtain ⟨b0,e0⟩:∃b,gE e=b:=⟨_,rfl⟩;simp only [e0,e1,e2,e3] at HG h1 h2 h3 hE;rw [HG.out];clear HG e0 e1 e2 e3 rL rJ rI;generalize L.length=n1 at *;generalize J.length=n2 at *;generalize I.length=n3 at *;unfold rkl;have hR:=heap_alloc_last w (.cells #[.int .i64 e,.slice aL n1 cL,.slice aJ n2 cJ,.slice aI n3 cI] 78);have hB:=below_alloc w (.cells #[.int .i64 e,.slice aL n1 cL,.slice aJ n2 cJ,.slice aI n3 cI] 78);go_enter Tryz.func210,Tryz.ntmps210;go_upto_region 1 with (fail)
 generalize w.alloc (.cells #[.int .i64 e,.slice aL n1 cL,.slice aJ n2 cJ,.slice aI n3 cI] 78)=w1 at *;obtain ⟨B,hBe⟩:∃B,w.heap.size=B:=⟨_,rfl⟩;rw [hBe] at hR ⊢;clear hBe;obtain ⟨c0,c1,c2,c3⟩:=c4 hR;have HB:Hid (Below w.heap.size w w1):=hB;clear hB;go_wp2_with fail
 refine (hE _).mono ?_;rintro q w2 ⟨rfl,rfl⟩
 cases b0 with
 | false=>
  go_wp2_with fail
  go_ret;exact ⟨rfl,HB.out⟩
 | true=>
  go_wp2_with fail
  refine (h1 _ HB.out).mono ?_;rintro q w2 ⟨rfl,hb2⟩;have hR2:=row_later hR hb2;have HB2:Hid (Below w.heap.size w w2):=Below.join HB.out hb2;clear c0 c1 c2 c3 hb2 hR HB h1;obtain ⟨c0,c1,c2,c3⟩:=c4 hR2
  cases b1 with
  | false=>
   go_wp2_with fail
   go_ret;exact ⟨rfl,HB2.out⟩
  | true=>
   go_wp2_with fail
   refine (h2 _ HB2.out).mono ?_;rintro q w3 ⟨rfl,hb3⟩;have hR3:=row_later hR2 hb3;have HB3:Hid (Below w.heap.size w w3):=Below.join HB2.out hb3;clear c0 c1 c2 c3 hb3 hR2 HB2 h2;obtain ⟨c0,c1,c2,c3⟩:=c4 hR3
   cases b2 with
   | false=>
    go_wp2_with fail
    go_ret;exact ⟨rfl,HB3.out⟩
   | true=>
    go_wp2_with fail
    refine (h3 _ HB3.out).mono ?_;rintro q w4 ⟨rfl,hb4⟩;have HB4:Hid (Below w.heap.size w w4):=Below.join HB3.out hb4;clear c0 c1 c2 c3 hb4 hR3 HB3 h3;go_wp2_with fail
    go_ret;exact ⟨by cases b3 <;> rfl,HB4.out⟩
open Bt (tx)
theorem upd_mid:∀(vs old A Z:List Value),old.length=vs.length→upd (A++(old++Z)).toArray A.length vs=(A++(vs++Z)).toArray
 | [],old,A,Z,h=>by
  have:old=[]:=List.length_eq_zero_iff.1 h;subst this;rfl
 | v::vs,[],A,Z,h=>by cases h
 | v::vs,o::old,A,Z,h=>by
  have ih:=upd_mid vs old (A++[v]) Z (by simpa using h);rw [upd];have e:(A++(o::old++Z)).toArray.setIfInBounds A.length v=(A++[v]++(old++Z)).toArray:=by simp
  rw [e];rw [List.length_append] at ih;rw [show A.length+1=A.length+[v].length from rfl,ih];simp
/- A message in a block. -/
def MgAt (w:World) (B:Nat) (m:Msg) (vL vJ vI:Value):Prop:=w.heap[B]? =some (.cells (mgl m vL vJ vI).toArray 92 (0,0))
section
variable {w w':World} {B:Nat} {m:Msg} {vL vJ vI:Value}
theorem MgAt.later (h:MgAt w B m vL vJ vI) (hb:Below w.heap.size w w'):MgAt w' B m vL vJ vI:=row_later h hb
theorem MgAt.kind (h:MgAt w B m vL vJ vI):w.cell? ⟨B,0,none⟩=some (.int .i64 m.kd):=(cell_of_row w B 0 _ _ _ h).trans rfl
theorem MgAt.rk (h:MgAt w B m vL vJ vI):w.rangeAt B 1 (rkl m.rk.1 vL vJ vI):=ra_of h 1 _ rfl
theorem MgAt.rq (h:MgAt w B m vL vJ vI):w.rangeAt B 5 (stl m.rq):=ra_of h 5 _ rfl
theorem MgAt.rp (h:MgAt w B m vL vJ vI):w.rangeAt B 7 (rpl m.rp):=ra_of h 7 _ rfl
theorem MgAt.sd (h:MgAt w B m vL vJ vI):w.rangeAt B 22 (sdl m.sd):=ra_of h 22 _ rfl
theorem MgAt.all (h:MgAt w B m vL vJ vI):w.rangeAt B 0 (mgl m vL vJ vI):=ra_of h 0 _ rfl
theorem MgAt.there (h:MgAt w B m vL vJ vI) (o n:Nat) (e:o+n≤26):w.there B o n:=th_of h o n e
theorem MgAt.setR (h:MgAt w B m vL vJ vI) (r:Int×(List (Int×Int)×(List (Int×Int)×List ((Int×Int)×((Int×Int)×(Int×Int)))))) (xL xJ xI:Value):MgAt (w.setCells B 1 (rkl r.1 xL xJ xI)) B ⟨m.kd,r,m.rq,m.rp,m.sd⟩ xL xJ xI:=(row_upd _ 1 h).trans (congrArg (fun c=>some (Obj.cells c 92 (0,0))) (upd_mid (rkl r.1 xL xJ xI) (rkl m.rk.1 vL vJ vI) [.int .i64 m.kd] (stl m.rq++(rpl m.rp++sdl m.sd)) rfl))
end
def nP (m:Msg):Bool:=nR m.rk&&(decide (m.rq=zQ)&&(decide (m.rp=zP)&&decide (m.sd=zD)))
set_option maxRecDepth 100000 in
set_option maxHeartbeats 1000000 in
theorem noParts_any (m:Msg) (aL aJ aI:Option Addr) (cL cJ cI:Nat) (w:World) (nL:m.rk.2.1.length<4611686018427387904) (nJ:m.rk.2.2.1.length<4611686018427387904) (nI:m.rk.2.2.2.length<4611686018427387904):
  Calls Tryz.prog 214 #[.agg (mgl m (.slice aL m.rk.2.1.length cL) (.slice aJ m.rk.2.2.1.length cJ) (.slice aI m.rk.2.2.2.length cI)).toArray] w fun e w'=>e=.returned (.bool (nP m))∧Below w.heap.size w w':=by
 have HG:Hid (nP m=((decide (m.rk.1=0)&&(decide (m.rk.2.1.length=0)&&(decide (m.rk.2.2.1.length=0)&&decide (m.rk.2.2.2.length=0))))&&(decide (m.rq=zQ)&&(decide (m.rp=zP)&&decide (m.sd=zD))))):=rfl;rw [HG.out];clear HG;have hM:MgAt (w.alloc (.cells (mgl m (.slice aL m.rk.2.1.length cL) (.slice aJ m.rk.2.2.1.length cJ) (.slice aI m.rk.2.2.2.length cI)).toArray 92)) w.heap.size m (.slice aL m.rk.2.1.length cL) (.slice aJ m.rk.2.2.1.length cJ) (.slice aI m.rk.2.2.2.length cI):=heap_alloc_last w _;have hB:=below_alloc w (.cells (mgl m (.slice aL m.rk.2.1.length cL) (.slice aJ m.rk.2.2.1.length cJ) (.slice aI m.rk.2.2.2.length cI)).toArray 92);have eq1:=fun W=>run_eqPr 83 (w:=W) 9998 m.rq zQ (.inr (.inr rfl))
 have eq2:=fun W=>run_eqRp (w:=W) 9995 m.rp zP
 have eq3:=fun W=>run_eqSd (w:=W) 9997 m.sd zD
 generalize decide (m.rq=zQ)=g1 at *;generalize decide (m.rp=zP)=g2 at *;generalize decide (m.sd=zD)=g3 at *;generalize m.rk.2.1.length=n1 at *;generalize m.rk.2.2.1.length=n2 at *;generalize m.rk.2.2.2.length=n3 at *;obtain ⟨ct,hct⟩:∃c,(mgl m (.slice aL n1 cL) (.slice aJ n2 cJ) (.slice aI n3 cI)).toArray=c:=⟨_,rfl⟩;rw [hct] at hB;rw [hct];have hM':=hM;rw [hct] at hM';clear hM;clear hct;have hrk:=hM'.rk;obtain ⟨e,hee⟩:∃e,m.rk.1=e:=⟨_,rfl⟩;rw [hee] at hrk;rw [hee];clear hee;have HM:Hid (MgAt (w.alloc (.cells ct 92)) w.heap.size m (.slice aL n1 cL) (.slice aJ n2 cJ) (.slice aI n3 cI)):=hM';unfold rkl at hrk;clear hM';go_enter Tryz.func214,Tryz.ntmps214;go_upto_region 1 with (fail)
 generalize w.alloc (.cells ct 92)=w1 at *;obtain ⟨B,hBe⟩:∃B,w.heap.size=B:=⟨_,rfl⟩;rw [hBe] at hrk HM ⊢;clear hBe;have HB:Hid (Below w.heap.size w w1):=hB;clear hB;go_upto_region 2 with (refine ldM hrk Tryz.underlying78 rfl szRk _ rfl rfl rfl ?_)
 have hR:=heap_alloc_last w1 (.cells #[.int .i64 e,.slice aL n1 cL,.slice aJ n2 cJ,.slice aI n3 cI] 78);have HB2:Hid (Below w.heap.size w (w1.alloc (.cells #[.int .i64 e,.slice aL n1 cL,.slice aJ n2 cJ,.slice aI n3 cI] 78))):=Below.plus HB.out _;have hM2:=HM.out.later (below_alloc w1 (.cells #[.int .i64 e,.slice aL n1 cL,.slice aJ n2 cJ,.slice aI n3 cI] 78));generalize w1.alloc (.cells #[.int .i64 e,.slice aL n1 cL,.slice aJ n2 cJ,.slice aI n3 cI] 78)=w2 at *;generalize w1.heap.size=C at *;obtain ⟨c0,c1,c2,c3⟩:=c4 hR;have HQ:Hid (w2.rangeAt B 5 (stl m.rq)):=hM2.rq;have HP:Hid (w2.rangeAt B 7 (rpl m.rp)):=hM2.rp;have HD:Hid (w2.rangeAt B 22 (sdl m.sd)):=hM2.sd;clear HM HB hrk hR hM2;have eq1:=eq1 w2;have eq2:=eq2 w2;have eq3:=eq3 w2;by_cases he:e=0
 ·subst he;have f1:decide ((0:Int)=0)=true:=by simp
  by_cases h1:n1=0
  ·subst h1;by_cases h2:n2=0
   ·subst h2;by_cases h3:n3=0
    ·subst h3
     cases g1 with
     | false=>
      go_wp2_with (first | (refine ldM HQ.out Tryz.underlying83 rfl szRq _ rfl rfl rfl ?_) | (refine eqX eq1 Tryz.eqGuardType83 _ _ rfl rfl rfl rfl ?_))
      go_ret;exact ⟨rfl,HB2.out⟩
     | true=>
      cases g2 with
      | false=>
       go_wp2_with (first | (refine ldM HQ.out Tryz.underlying83 rfl szRq _ rfl rfl rfl ?_) | (refine eqX eq1 Tryz.eqGuardType83 _ _ rfl rfl rfl rfl ?_) | (refine ldM HP.out Tryz.underlying88 rfl szRp _ rfl rfl rfl ?_) | (refine eqX eq2 Tryz.eqGuardType88 _ _ rfl rfl rfl rfl ?_))
       go_ret;exact ⟨rfl,HB2.out⟩
      | true=>
       go_wp2_with (first | (refine ldM HQ.out Tryz.underlying83 rfl szRq _ rfl rfl rfl ?_) | (refine eqX eq1 Tryz.eqGuardType83 _ _ rfl rfl rfl rfl ?_) | (refine ldM HP.out Tryz.underlying88 rfl szRp _ rfl rfl rfl ?_) | (refine eqX eq2 Tryz.eqGuardType88 _ _ rfl rfl rfl rfl ?_) | (refine ldM HD.out Tryz.underlying90 rfl szSd _ rfl rfl rfl ?_) | (refine eqX eq3 Tryz.eqGuardType90 _ _ rfl rfl rfl rfl ?_))
       go_ret;exact ⟨by cases g3 <;> rfl,HB2.out⟩
    ·have d1:decide ((n3:Int)=0)=false:=by simp;omega
     have d2:((n3:Int)==0)=false:=by simp;omega
     have d3:¬(n3:Int)=0:=by omega
     go_wp2_with fail
     go_ret;exact ⟨by simp [h3],HB2.out⟩
   ·have d1:decide ((n2:Int)=0)=false:=by simp;omega
    have d2:((n2:Int)==0)=false:=by simp;omega
    have d3:¬(n2:Int)=0:=by omega
    go_wp2_with fail
    go_ret;exact ⟨by simp [h2],HB2.out⟩
  ·have d1:decide ((n1:Int)=0)=false:=by simp;omega
   have d2:((n1:Int)==0)=false:=by simp;omega
   have d3:¬(n1:Int)=0:=by omega
   go_wp2_with fail
   go_ret;exact ⟨by simp [h1],HB2.out⟩
 ·have d1:decide (e=0)=false:=by simp;omega
  have d2:(e==0)=false:=by simp;omega
  go_wp2_with fail
  go_ret;exact ⟨by simp [he],HB2.out⟩
theorem gM_1 {m:Msg} (h:m.kd=1):gM m=(gR m.rk&&nP ⟨m.kd,zR,m.rq,m.rp,m.sd⟩):=by
 have e:nR zR=true:=nR_iff.2 rfl;unfold gM nP;rw [if_pos h];dsimp only;rw [e,Bool.true_and]
/- What can be read of a message. -/
structure MR (w:World) (m:Msg) (aL aJ aI:Option Addr):Prop where
 l:RdV stl 2 w aL m.rk.2.1
 j:RdV stl 2 w aJ m.rk.2.2.1
 i:RdV itl 6 w aI m.rk.2.2.2
 nl:m.rk.2.1.length<4611686018427387904
 nj:m.rk.2.2.1.length<4611686018427387904
 ni:m.rk.2.2.2.length<4611686018427387904
 ns:m.sd.2.2.size<4611686018427387904
theorem MR.later {w w':World} {m:Msg} {aL aJ aI:Option Addr} (h:MR w m aL aJ aI) (hb:Below w.heap.size w w'):MR w' m aL aJ aI:=⟨h.l.later hb,h.j.later hb,h.i.later hb,h.nl,h.nj,h.ni,h.ns⟩
/- A message as a value. -/
def mgv (m:Msg) (aL aJ aI:Option Addr) (cL cJ cI:Nat):List Value:=mgl m (.slice aL m.rk.2.1.length cL) (.slice aJ m.rk.2.2.1.length cJ) (.slice aI m.rk.2.2.2.length cI)
open Bt (Rr Kept tb bys tb_length bys_length)
/- What is thrown. -/
def pw:List PanicEntry:=[{v:=.iface 26 (.int .i64 13),recovered:=false}]
theorem row_kept {w w':World} {g k:Nat} {o:Obj} (h:w.heap[k]? =some o) (hk:Kept (fun k=>k=g) w w') (hn:k≠g):w'.heap[k]? =some o:=(hk.block k (row_lt h) hn).trans h
theorem setRow_other {w:World} {B C:Nat} (h:C≠B) (cs:Array Value):(w.setRow B cs).heap[C]? =w.heap[C]? :=by
 simp only [World.setRow,Array.getElem?_modify];rw [if_neg (fun e=>h e.symm)]
/- A row stored whole: an arm of the walk. -/
theorem stW {T:TypeId} {n:Nat} (hi:(Tryz.prog.info? T).map (·.size)=some n) {ops:Array Oper} {rest:List Oper} {o:Oper} {a:Act} {w:World} {Q:Exit→Act→World→Prop} {B:Nat} {cs:Array Value} (h:w.heap[B]? =some (.cells cs T (0,0))) (hs:cs.size=n) (ds:List Value) (hd:ds.length=n) (h1:ds.all (·.oneCell')=true) (hgd:o.guard=none) (x y:Operand) (ho:o.op=.store T x y)
  (hx:a.eval x=.pointer (some ⟨B,0,none⟩)) (hy:a.eval y=.agg ds.toArray) (k:wpList Tryz.prog ops Q rest (a.put o.dst undef) (w.setRow B ds.toArray)):wpList Tryz.prog ops Q (o::rest) a w:=
 wpList_store_row hgd T x y ho B ds.toArray hx hy T cs h (by rw [hi];simp [hd]) (by rw [hs];simp [hd]) (by simpa using h1) k
theorem res1 {T:TypeId} {fn:Func} {p:Tmp} (hf:fn.results=#[.cell p T]) (tmps:Array Value) (W:World) (B:Nat) (cs:Array Value) (hp:tmps[p]? =some (.pointer (some ⟨B,0,none⟩))) (h:(loadVar T ⟨B,0,none⟩).run Tryz.prog W=.ok (.agg cs) W):
  (results fn tmps).run Tryz.prog W=.ok (.agg cs) W:=by
 simp [results,hf,hp,asAddr,h]
end Go.Proofs.YtoimkngkcliinaaGreatDoor.Wi
