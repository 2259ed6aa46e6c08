/- PwB0, PwM, joined. -/
import Derived.Test.YtoimkngkcliinaaGreatDoorJPlMath
import Derived.Test.YtoimkngkcliinaaGreatDoorJWiMath2
namespace Go.Proofs.YtoimkngkcliinaaGreatDoor
open Rs (evl)
set_option linter.unusedVariables false
set_option maxRecDepth 4000
def mS (t:Tr) (b:List Int×List Int):Int×(List (Int×Int)×(List (Int×Int)×List It)):=(t.ep+1,(evl t.ro b.1,(jns t b.1 b.2,its (nx t b.1 b.2) (plR t b.1) (jns t b.1 b.2))))
open Go.RowKit
open Rt (Ky zK gd)
open Rs (En zE rcs tkn fnd evl adl wok)
open Sh (belB)
set_option linter.unusedSimpArgs false
def itP (x:It):(Int×Int)×((Int×Int)×(Int×Int)):=((x.nd,x.fm),((x.un.bas,x.un.stp),(x.ld.bas,x.ld.stp)))
def rW (M:Int×(List (Int×Int)×(List (Int×Int)×List It))):Int×(List (Int×Int)×(List (Int×Int)×List ((Int×Int)×((Int×Int)×(Int×Int))))):=(M.1,(M.2.1,(M.2.2.1,M.2.2.2.map itP)))
theorem bel_self:∀c:Fin 85,belB (c.val:Int) (c.val:Int)=true:=by decide+kernel
theorem item_of2 {t:Tr} {L J:List Int} (h:Stp t L J) {x:It} (hx:x∈its (nx t L J) (plR t L) (jns t L J)):∃v c,x=mkI (nx t L J) v c∧Itm (nx t L J) v c∧v<c:=by
 obtain ⟨v,c,e,hi⟩:=item_of h hx;refine ⟨v,c,e,hi,?_⟩;unfold its at hx
 have ev:∀v' c',mkI (nx t L J) v c=mkI (nx t L J) v' c'→v=v'∧c=c':=fun v' c' e'=>by
  unfold mkI at e';injection e' with e1 e2
  omega
 rcases List.mem_append.1 hx with hx | hx
 ·obtain ⟨v',i,hv,hi',_,hh,e'⟩:=mem_dI.1 hx;obtain ⟨rfl,rfl⟩:=ev _ _ (e.symm.trans e');omega
 ·obtain ⟨p,hp,i,hi',_,e'⟩:=mem_jJ.1 hx;obtain ⟨s,hs,hp2,_⟩:=h.seat hp;rw [hp2,Int.toNat_natCast] at e';obtain ⟨rfl,rfl⟩:=ev _ _ (e.symm.trans e');have:=pn_lt hs i;omega
theorem key_good {t:Tr} (h:tck t=true) {c:Nat} (hc:c<85) (h0:koE t (c:Int)=0):gd (kyA t c).bas (kyA t c).stp=true:=by
 have hr:=tck_right h;rw [kyA_ko h hc h0];rcases kn h hc h0 with ⟨h1,e⟩ | ⟨s,hs,e1,ht,e⟩
 ·rw [e];have:=Rt.kchk_at hr.ks h1;unfold Rt.kok at this;rw [Bool.and_eq_true] at this;exact this.1
 ·rw [e];obtain ⟨a,b,c',d,_,_⟩:=hr.taken hs ht;have h2:=(hr.fs s hs).2.1;have h3:=hr.e1;dsimp only;simp only [Rt.gd,Bool.and_eq_true,decide_eq_true_eq];refine ⟨by omega,by omega,by omega,by omega⟩
theorem in_held {t:Tr} {v c:Nat} (hi:Itm t v c) (h:tck t=true):koE t (v:Int)=0:=by
 refine hld_leaf h (by have:=hi.lv;omega) ?_;obtain ⟨s,hs,ht,hb⟩:=hld_at hi.held;have e:(21+(s:Int))=((21+s:Nat):Int):=by push_cast;rfl
 have:=hi.up (21+s) (by omega) (by rw [←e];exact hb);exact hld_yes hs ht (by rw [e];exact this)
theorem item_good {t:Tr} {L J:List Int} (h:Stp t L J) {x:It} (hx:x∈its (nx t L J) (plR t L) (jns t L J)):Wi.gI (itP x)=true:=by
 obtain ⟨v,c,rfl,hi,hvc⟩:=item_of2 h hx;have ht:=h.tckn;have k1:=key_good ht hi.lc (hld_leaf ht hi.lc hi.held);have k2:=key_good ht (show v<85 by have:=hi.lv;omega) (in_held hi ht);have hb:=hi.up c hi.lc (bel_self ⟨c,hi.lc⟩);have h1:=hi.lv;refine Wi.gI_iff.2 ⟨⟨by show (0:Int)≤(v:Int);omega,by show (v:Int)<21;omega⟩,?_,k1,k2⟩;show Wi.dpr (v:Int) (c:Int)=true
 unfold Wi.dpr;rw [hb];simp;omega
theorem wok_i {x:Int} (h:wok x=true):0≤x∧x<256:=by
 unfold Rs.wok at h
 simpa using h
theorem step_good {t:Tr} {L J:List Int} (h:Stp t L J):Wi.gR (rW (mS t (L,J)))=true:=by
 have e0:=h.rt.e0;have e1:=h.ep;have lL:(evl t.ro L).length≤64:=by rw [fit_evl h.fit,List.length_map];exact h.fit.lenL
 have lJ:(jns t L J).length≤64:=by
  have:(jns t L J).length=J.length:=by unfold jns;simp
  rw [this];exact h.fit.lenJ
 have lI:=its_len (nx t L J) (evl t.ro L) (jns t L J);unfold Wi.gR;simp only [Bool.and_eq_true,decide_eq_true_eq,List.all_eq_true];refine ⟨Wi.gE_iff.2 ⟨by show 1≤t.ep+1;omega,by show t.ep+1≤200;omega⟩,⟨lL,fun p hp=>?_⟩,⟨lJ,fun p hp=>?_⟩,?_,fun x hx=>?_⟩
 ·obtain ⟨s,hs,h2,_,_,hm⟩:=h.left hp;obtain ⟨k,hk,e⟩:=List.mem_iff_getElem.1 hm;have q:=(h.fit.lv k hk).1;rw [List.getD_eq_getElem?_getD,List.getElem?_eq_getElem hk,Option.getD_some,e] at q;exact Wi.gS_iff.2 ⟨wok_i q,by omega,by omega⟩
 ·obtain ⟨m,hm,e⟩:=mem_jns.1 hp;have q:=wok_i (h.fit.jn m hm).1;have q2:=(h.joined hm).1;rw [e];exact Wi.gS_iff.2 ⟨q,by dsimp only;omega,by dsimp only;omega⟩
 ·show ((its (nx t L J) (plR t L) (jns t L J)).map itP).length≤1536
  rw [List.length_map];unfold plR;omega
 ·obtain ⟨y,hy,rfl⟩:=List.mem_map.1 hx;exact item_good h hy
end Go.Proofs.YtoimkngkcliinaaGreatDoor
