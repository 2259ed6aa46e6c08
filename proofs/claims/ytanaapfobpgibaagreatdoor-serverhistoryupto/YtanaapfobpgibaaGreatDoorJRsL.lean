/- RsL, RsSm, RsMm, RsMath6, RsMath7, joined. -/
import Derived.Test.YtanaapfobpgibaaGreatDoorJKeyMath
import Derived.Laws.AppendOwnNone
open Go.Proofs.Tryz
namespace Go.Proofs.YtanaapfobpgibaaGreatDoor.Rs
open Go.RowKit Go.Maps
set_option linter.unusedVariables false
set_option linter.unusedSimpArgs false
variable {W W1 w:World} {b n sz:Nat} {e:TypeId} {v:Value} {xs:List Value} {o:Obj}
theorem FS.E7 {w W:World} {g:Nat→En} {aL aJ:Option Addr} {nL nJ cL cJ:Nat} (h:FS w W g aL aJ nL nJ cL cJ) (k:Nat) (hk:k<64) (a b c:Int):
  FS w (((W.setCell ⟨w.heap.size,k * 3,none⟩ (.int .i64 a)).setCell ⟨w.heap.size,k * 3+1,none⟩ (.int .i64 b)).setCell ⟨w.heap.size,k * 3+2,none⟩ (.int .i64 c)) (upd g k ⟨a,b,c⟩) aL aJ nL nJ cL cJ:=
 ⟨h.ro.E7 k hk a b c,(ee (by omega) _ _ _ _ _ _).trans h.bt,o9 h.aK (Nat.le_refl _) _ _ _ _ _ _⟩
theorem MV.E7 {w W:World} {g:Nat→En} {aL aJ:Option Addr} {nL nJ cL cJ:Nat} (h:MV w W g aL aJ nL nJ cL cJ) (k:Nat) (hk:k<64) (a b c:Int):
  MV w (((W.setCell ⟨w.heap.size,k * 3,none⟩ (.int .i64 a)).setCell ⟨w.heap.size,k * 3+1,none⟩ (.int .i64 b)).setCell ⟨w.heap.size,k * 3+2,none⟩ (.int .i64 c)) (upd g k ⟨a,b,c⟩) aL aJ nL nJ cL cJ:=
 ⟨h.fs.E7 k hk a b c,(ee (by omega) _ _ _ _ _ _).trans h.ze⟩
theorem kW (h:W.ownsRow b e sz v n xs) (hg:(W.alloc o).grownBy W1 v.ownBlock) {k:Nat} (hk:k<b) (hs:k<W.heap.size):W1.heap[k]? =W.heap[k]? :=by
 rw [hg.block k (by simp;omega) (b9 h hk)];exact ((Below.refl _ W).alloc (Nat.le_refl _) o).block k hs
theorem kX (hb:Below w.heap.size w W) (h:W.ownsRow b e sz v n xs) (hn:w.heap.size≤b) (hg:(W.alloc o).grownBy W1 v.ownBlock):Below w.heap.size w W1:=by
 have b1:=hb.alloc hb.size o;refine tO b1 hg (by have:=hb.size;simp;omega) fun j hj=>?_
 rcases Nat.lt_or_ge j b with hlt | BN
 ·exact absurd hj.symm (b9 h hlt)
 ·omega
theorem MV.app {g:Nat→En} {aL aJ:Option Addr} {nL nJ cL cJ:Nat} (h:MV w W g aL aJ nL nJ cL cJ) (hr:W.ownsRow b e sz v n xs) (hn:w.heap.size+3≤b) (hg:(W.alloc o).grownBy W1 v.ownBlock):MV w W1 g aL aJ nL nJ cL cJ:=by
 have hs:=h.ze.lt;exact ⟨⟨(kW hr hg (by omega) (by omega)).trans h.fs.ro,(kW hr hg (by omega) (by omega)).trans h.fs.bt,kX h.fs.aK hr (by omega) hg⟩,(kW hr hg (by omega) (by omega)).trans h.ze⟩
set_option maxRecDepth 100000 in
set_option maxHeartbeats 4000000 in
theorem KM (f:Nat→En) (aL aJ:Option Addr) (cL cJ:Nat) (L J:List Int) (sc bs:Int) (w:World) (lL:L.length<1152921504606846976) (lJ:J.length<1152921504606846976) (rL:bM w aL L) (rJ:bM w aJ J):
  Calls prog 44 #[.agg (aU f),.agg #[.slice aL L.length cL,.slice aJ J.length cJ],.int .i64 sc,.int .i64 bs] w fun e w'=>lp w w' f L J sc bs e∧Below w.heap.size w w':=by
 have Lu:=MV.new w f aL aJ L.length J.length cL cJ;obtain ⟨i0,hi,hz0,hz1,hz2⟩:=cR;go_enter func44,ntmps44;go_upto_region 1 with (fail)
 rw [rD];generalize ((w.alloc (.cells (aU f) 37)).alloc (.cells #[.slice aL L.length cL,.slice aJ J.length cJ] 43)).alloc (.cells (aU fun _=>zE) 37)=w1 at *;refine wp_region_lit ?_;refine iV Lu.fs.ro rfl _ rfl rfl ?_;obtain ⟨cl,cj⟩:=Lu.fs.cells;have tG:=yO f aL aJ cL cJ L J w1 lL lJ (rL.later Lu.fs.aK) (rJ.later Lu.fs.aK);obtain ⟨cf,hc⟩:∃cf,aU f=cf:=⟨_,rfl⟩;rw [hc] at tG ⊢;clear hc;go_wp2_with fail
 refine tG.mono ?_;rintro r w2 ⟨rfl,hb2⟩;have iY:=Lu.later hb2;clear Lu hb2 tG cl cj;by_cases xH:ft f L J=0
 ·rw [xH]
  cases Gb:w_ sc with
  | false=>
   have HEK:Hid (w_ sc=(decide (1≤sc)&&decide (sc≤200))):=rfl;by_cases h1:sc<1
   ·go_wp2_with (refine ou (g:=fun _=>zE) iY.ze rfl _ _ rfl rfl iR ?_)
    refine bodyPost_ret (cD (p:=8) (t:=9) (u:=10) (v:=11) rfl _ _ (w.heap.size+2) (fun _=>zE) rfl (iY.ze.row _)) rfl ?_;exact ⟨lp.no (FQ xH Gb) (by decide),ag (by omega) iY.fs.aK _⟩
   ·have h2:200<sc:=by
     have:=HEK.out;rw [Gb] at this;simp at this;omega
    go_wp2_with (refine ou (g:=fun _=>zE) iY.ze rfl _ _ rfl rfl iR ?_)
    refine bodyPost_ret (cD (p:=8) (t:=9) (u:=10) (v:=11) rfl _ _ (w.heap.size+2) (fun _=>zE) rfl (iY.ze.row _)) rfl ?_;exact ⟨lp.no (FQ xH Gb) (by decide),ag (by omega) iY.fs.aK _⟩
  | true=>
   have s1:¬sc<1:=by simp [w_] at Gb;omega
   have s2:¬200<sc:=by simp [w_] at Gb;omega
   obtain ⟨cl,cj⟩:=iY.fs.cells;have BX:Hid (xP f bs J.length=(decide (J.length=0)||(decide (1≤bs)&&decide (bs≤32768 - (J.length:Int))&&um f bs J.length 64))):=rfl;have Lf:IntKind.i64.wrap (32768 - (J.length:Int))=32768 - (J.length:Int):=bC _ (by omega) (by omega);have iN:Hid (b6 f L J):=zl xH;by_cases gZ:J.length=0
   case' pos=>
    have wO:xP f bs J.length=true:=by rw [BX.out,gZ];rfl
    have n2:decide ((0:Int)<(J.length:Int))=false:=decide_eq_false (by omega);have n3:(0<J.length)=False:=propext ⟨fun h=>by omega,False.elim⟩;have Vu:Hid (J.length=0):=gZ;clear gZ;go_wp2_with fail
    go_loop [14] (fun i=>i=.int .i64 0) (fun _=>0)
    case atStart=>rfl
    case' round=>
     subst hrel;have abj:True:=trivial
   case' neg=>
    have n1:(0:Int)<(J.length:Int):=by omega
    have HD:Hid (decide (J.length=0)=false):=decide_eq_false gZ;by_cases h1:bs<1
    case pos=>
     have BZ:Hid (decide (1≤bs)=false):=decide_eq_false (by omega);go_wp2_with (refine ou (g:=fun _=>zE) iY.ze rfl _ _ rfl rfl iR ?_)
     refine bodyPost_ret (cD (p:=8) (t:=9) (u:=10) (v:=11) rfl _ _ (w.heap.size+2) (fun _=>zE) rfl (iY.ze.row _)) rfl ?_;exact ⟨lp.no (uI xH Gb (by rw [BX.out,HD.out,BZ.out];rfl)) (by decide),ag (by omega) iY.fs.aK _⟩
    case' neg=>
     have BZ:Hid (decide (1≤bs)=true):=decide_eq_true (by omega);by_cases h2:32768 - (J.length:Int)<bs
     case pos=>
      have xx:Hid (decide (bs≤32768 - (J.length:Int))=false):=decide_eq_false (by omega);go_wp2_with (refine ou (g:=fun _=>zE) iY.ze rfl _ _ rfl rfl iR ?_)
      refine bodyPost_ret (cD (p:=8) (t:=9) (u:=10) (v:=11) rfl _ _ (w.heap.size+2) (fun _=>zE) rfl (iY.ze.row _)) rfl ?_;exact ⟨lp.no (uI xH Gb (by rw [BX.out,HD.out,BZ.out,xx.out];rfl)) (by decide),ag (by omega) iY.fs.aK _⟩
     case' neg=>
      have xx:Hid (decide (bs≤32768 - (J.length:Int))=true):=decide_eq_true (by omega);have Ug:IntKind.i64.wrap (bs+(J.length:Int))=bs+(J.length:Int):=bC _ (by omega) (by omega);go_wp2_with fail
      go_loop [14] (fun i=>∃k:Nat,k≤64∧i=.int .i64 (k:Int)∧um f bs J.length k=true) (fun i=>64 - (intOf i).toNat)
      case atStart=>exact ⟨0,by omega,rfl,rfl⟩
      case' round=>
       obtain ⟨k,hk,rfl,hf⟩:=hrel;have HF:Hid (um f bs J.length k=true):=hf;clear hf;by_cases dA:k<64
       case pos=>
        have k8:(k:Int)<64:=by omega
        obtain ⟨c0,c1,c2⟩:=iY.fs.ro.cells k dA;have HS:Hid (um f bs J.length (k+1)=(um f bs J.length k&& !(decide (bs≤(f k).aB)&&decide ((f k).aB<bs+(J.length:Int))))):=rfl;have VC:Hid ((decide (bs≤(f k).aB)&&decide ((f k).aB<bs+(J.length:Int)))=true→um f bs J.length 64=false):=A4 dA;obtain ⟨e,he⟩:∃e,f k=e:=⟨_,rfl⟩;rw [he] at c0 c1 c2 HS VC;clear he;by_cases g1:bs≤e.aB
        ·by_cases g2:e.aB<bs+(J.length:Int)
         ·go_wp2_with (refine ou (g:=fun _=>zE) iY.ze rfl _ _ rfl rfl iR ?_)
          refine bodyPost_ret (cD (p:=8) (t:=9) (u:=10) (v:=11) rfl _ _ (w.heap.size+2) (fun _=>zE) rfl (iY.ze.row _)) rfl ?_;exact ⟨lp.no (uI xH Gb (by rw [BX.out,HD.out,BZ.out,xx.out,VC.out (by simp [g1,g2])];rfl)) (by decide),ag (by omega) iY.fs.aK _⟩
         ·go_wp2_with fail
          go_round
          case rel=>exact ⟨k+1,by omega,by go_num,by rw [HS.out,HF.out];simp;omega⟩
          case measure=>simp [intOf];omega
        ·go_wp2_with fail
         go_round
         case rel=>exact ⟨k+1,by omega,by go_num,by rw [HS.out,HF.out];simp;omega⟩
         case measure=>simp [intOf];omega
       case' neg=>
        obtain rfl:k=64:=by omega
        have wO:xP f bs J.length=true:=by rw [BX.out,HD.out,BZ.out,xx.out,HF.out];rfl
        have abj:=HF.out
   all_goals
    have HM:Hid (MV w w2 f aL aJ L.length J.length cL cJ):=iY;clear iY cl cj;go_upto_region 15 with (fail)
    obtain ⟨cl,cj⟩:=HM.out.fs.cells;have dF:Hid (w2.ownsRow (w.heap.size+3) 113 2 (.slice none 0 0) 0 (ps [])):=World.ownsRow_nil _ _ _ _;clear abj;go_wp2_with fail
    go_loopw [15,81] (fun v i wx=>∃(k:Nat) (vl:Value),k≤L.length∧i=.int .i64 (k:Int)∧vl=v∧MV w wx (evs f (L.take k)) aL aJ L.length J.length cL cJ∧wx.ownsRow (w.heap.size+3) 113 2 vl (eA f (L.take k)).length (ps (eA f (L.take k)))) (fun _ i _=>L.length - (intOf i).toNat)
    case atStart=>exact ⟨0,_,by omega,rfl,rfl,HM.out,dF.out⟩
    case round=>
     obtain ⟨k,vl,hk,rfl,rfl,ox,ya⟩:=hrel;have HE:Hid (MV w wr (evs f (L.take k)) aL aJ L.length J.length cL cJ):=ox;have HR:Hid (wr.ownsRow (w.heap.size+3) 113 2 vl (eA f (L.take k)).length (ps (eA f (L.take k)))):=ya;clear ox ya dF HM;by_cases ki:k<L.length
     ·have i1:(0:Int)≤(k:Int):=by omega
      have i2:(k:Int)<(L.length:Int):=by omega
      obtain ⟨b,o,oy,hcell⟩:=(rL.later HE.out.fs.aK) k ki;have HT:Hid (L.take (k+1)=L.take k++[L.getD k 0]):=jg ki;have lS:=iN.out.out k ki;have hlen:(eA f (L.take k)).length=k:=by simp;omega
      have TZ:=iN.out.CV;obtain ⟨x,hx⟩:∃x,L.getD k 0=x:=⟨_,rfl⟩;rw [hx] at hcell HT lS;obtain ⟨g,hg⟩:∃g,evs f (L.take k)=g:=⟨_,rfl⟩;obtain ⟨l,hl⟩:∃l,eA f (L.take k)=l:=⟨_,rfl⟩;rw [hg] at HE lS;rw [hl] at hlen HR;have HG:Hid (evs f (L.take k)=g):=hg;have HL:Hid (eA f (L.take k)=l):=hl;obtain ⟨j,hj,lT⟩:=Qt lS;have Di:=rY g x wr;rw [hj] at Di;have HJ:Hid (fC g x=(j:Int)):=hj;clear hx hg hl lS hj;subst oy;obtain ⟨a1,aS,rfl⟩:=ah HR.out;rw [hlen];have HLEN:Hid (l.length=k):=hlen;clear hlen;go_upto_region 18 with (fail)
      refine wp_region_lit ?_;refine iV HE.out.fs.ro rfl _ rfl rfl ?_;obtain ⟨cg,hcg⟩:∃cg,aU g=cg:=⟨_,rfl⟩;rw [hcg] at Di ⊢;clear hcg;go_wp2_with fail
      refine Di.mono ?_;rintro r w3 ⟨rfl,hb3⟩;have JX:Hid (MV w w3 g (some ⟨b,o,none⟩) aJ L.length J.length cL cJ):=HE.out.later hb3;have hrow:w3.ownsRow (w.heap.size+3) 113 2 (.slice a1 k aS) k (ps l):=by have h:=ar HR.out hb3;rw [HLEN.out] at h;exact h
      have hsz:=JX.out.ze.lt;clear Di hb3 HE HR;go_upto_region 20 with (at_builtin;(refine wpList_append_own _ rfl _ _ 51 rfl (w.heap.size+3) 113 i0 (.agg #[.int .i64 0,.int .i64 0]) 2 16 underlying51 hi hz0 hz1 hz2 rfl (by decide) (.slice a1 k aS) k (ps l) rfl (hrow.alloc _) ⟨w3.heap.size,0,none⟩ 1 1 [.int .i64 x,.int .i64 (j:Int)] rfl rfl (cell_two_new _ _ _ _) (by simp [Value.oneCell']) (by unfold maxLen;omega) (by omega) (by simp;omega) ?_);intro v' w4 hown' hg4 _)
      have Eu:Hid (MV w w4 g (some ⟨b,o,none⟩) aJ L.length J.length cL cJ):=JX.out.app hrow (Nat.le_refl _) hg4
      have HR4:Hid (w4.ownsRow (w.heap.size+3) 113 2 v' (l++[(x,(j:Int))]).length (ps (l++[(x,(j:Int))]))):=by
       show w4.ownsRow _ _ _ _ _ _
       rw [List.length_append,od,HLEN.out];exact hown'
      clear hown' hg4 hrow hsz JX;have j1:(j:Int)<64:=by omega
      obtain ⟨c0,c1,c2⟩:=Eu.out.fs.ro.cells j lT;have z0:=ax Eu.out.fs.ro (j * 3);have z1:=ax Eu.out.fs.ro (j * 3+1);have z2:=ax Eu.out.fs.ro (j * 3+2);have Vw:Hid (MV w (((w4.setCell ⟨w.heap.size,j * 3,none⟩ (.int .i64 0)).setCell ⟨w.heap.size,j * 3+1,none⟩ (.int .i64 0)).setCell ⟨w.heap.size,j * 3+2,none⟩ (.int .i64 0)) (upd g j ⟨0,0,0⟩) (some ⟨b,o,none⟩) aJ L.length J.length cL cJ):=Eu.out.E7 j lT 0 0 0;have HR5:Hid ((((w4.setCell ⟨w.heap.size,j * 3,none⟩ (.int .i64 0)).setCell ⟨w.heap.size,j * 3+1,none⟩ (.int .i64 0)).setCell ⟨w.heap.size,j * 3+2,none⟩ (.int .i64 0)).ownsRow (w.heap.size+3) 113 2 v' (l++[(x,(j:Int))]).length (ps (l++[(x,(j:Int))]))):=aY HR4.out fun m hm _=>ee (by omega) _ _ _ _ _ _
      go_wp2_with fail
      go_roundw
      case rel=>
       have e1:evs f (L.take (k+1))=upd g j ⟨0,0,0⟩:=by rw [HT.out,wY,HG.out,Gz HJ.out];rfl
       have e2:eA f (L.take (k+1))=l++[(x,(j:Int))]:=by rw [HT.out,wZ,HG.out,HL.out,HJ.out]
       refine ⟨k+1,_,by omega,by go_num,rfl,?_,?_⟩
       ·rw [e1];exact Vw.out
       ·rw [e2];exact HR5.out
      case measure=>simp [intOf];omega
     ·obtain rfl:k=L.length:=by omega
      have IY:decide ((L.length:Int)<(L.length:Int))=false:=by simp
      have sS:Hid (MV w wr (evs f L) aL aJ L.length J.length cL cJ):=by have h:=HE.out;rw [List.take_length] at h;exact h
      have L4:Hid (wr.ownsRow (w.heap.size+3) 113 2 vl L.length (ps (eA f L))):=by have h:=HR.out;rw [List.take_length,ew] at h;exact h
      obtain ⟨cl,cj⟩:=sS.out.fs.cells;clear HE HR;go_upto_region 22 with (fail)
      obtain ⟨w5,hw5⟩:∃w5,wr=w5:=⟨_,rfl⟩;rw [hw5] at sS L4 cl cj ⊢;clear hw5
      have rb:Hid (∀m,vl.ownBlock=some m→m<w5.heap.size):=fun m hm=>by
       rcases L4.out.2 with ⟨h0,_⟩ | ⟨g,cap,cur,h0,h3,h4,_⟩
       ·rw [h0] at hm;simp [Value.ownBlock] at hm
       ·rw [h0] at hm;simp [Value.ownBlock] at hm;subst hm;exact (Array.getElem?_eq_some_iff.1 h4).1
      have HTL:Hid ((fU f L J).length=J.length):=iN.out.aaU;have Xl:Hid (J≠[]→1≤bs∧bs+(J.length:Int)≤32768):=Gv wO;obtain ⟨e0,BP⟩:∃e0,evs f L=e0:=⟨_,rfl⟩;rw [BP] at sS;have Ev:Hid (evs f L=e0):=BP;clear BP;have hs5:=sS.out.ze.lt;have HJ0:Hid (w5.ownsRow w5.heap.size 113 2 (.slice none 0 0) 0 (ps [])):=World.ownsRow_nil _ _ _ _;go_wp2_with fail
      go_loopw [16,101] (fun v i wx=>∃(k:Nat) (vj:Value),k≤J.length∧i=.int .i64 (k:Int)∧vj=v∧MV w wx (nN e0 (fU f L J) J sc bs k) aL aJ L.length J.length cL cJ∧wx.ownsRow w5.heap.size 113 2 vj (nO (fU f L J) J k).length (ps (nO (fU f L J) J k))∧wx.ownsRow (w.heap.size+3) 113 2 vl L.length (ps (eA f L))∧w5.heap.size≤wx.heap.size) (fun _ i _=>J.length - (intOf i).toNat)
      case atStart=>exact ⟨0,_,by omega,rfl,rfl,sS.out,HJ0.out,L4.out,Nat.le_refl _⟩
      case round=>
       obtain ⟨k,vj,hk,rfl,rfl,ox,ya,hrl,hsw⟩:=hrel;have HS:Hid (w5.heap.size≤wr.heap.size):=hsw;have HE:Hid (MV w wr (nN e0 (fU f L J) J sc bs k) aL aJ L.length J.length cL cJ):=ox;have HR:Hid (wr.ownsRow w5.heap.size 113 2 vj (nO (fU f L J) J k).length (ps (nO (fU f L J) J k))):=ya;have uZ:Hid (wr.ownsRow (w.heap.size+3) 113 2 vl L.length (ps (eA f L))):=hrl;clear ox ya hrl hsw sS L4 HJ0;by_cases ki:k<J.length
       ·have i1:(0:Int)≤(k:Int):=by omega
        have i2:(k:Int)<(J.length:Int):=by omega
        have aaX:=iN.out.CW;obtain ⟨b1,b2⟩:=Xl.out (fun e=>by rw [e] at ki;simp at ki);obtain ⟨b,o,oy,hcell⟩:=(rJ.later HE.out.fs.aK) k ki;have Sg:=iN.out.slots (sc:=sc) b1 ki;rw [Ev.out] at Sg;have HA:Hid (nN e0 (fU f L J) J sc bs (k+1)=upd (nN e0 (fU f L J) J sc bs k) ((fU f L J).getD k 0) ⟨J.getD k 0,bs+(k:Int),sc⟩):=rfl;have HL:Hid (nO (fU f L J) J (k+1)=nO (fU f L J) J k++[(J.getD k 0,(((fU f L J).getD k 0:Nat):Int))]):=rfl;have hlen:(nO (fU f L J) J k).length=k:=bX _ _ _;have Ug:IntKind.i64.wrap (bs+(k:Int))=bs+(k:Int):=bC _ (by omega) (by omega);have lT:=Sg.lt;have IV:=Sg.free;have wM:=Sg.low;obtain ⟨x,hx⟩:∃x,J.getD k 0=x:=⟨_,rfl⟩;rw [hx] at hcell HA HL;obtain ⟨j,hj⟩:∃j,(fU f L J).getD k 0=j:=⟨_,rfl⟩;rw [hj] at lT HA HL IV wM;clear hx hj b1 b2 Sg;obtain ⟨g,hg⟩:∃g,nN e0 (fU f L J) J sc bs k=g:=⟨_,rfl⟩;rw [hg] at HE HA IV wM;clear hg;obtain ⟨l,hl⟩:∃l,nO (fU f L J) J k=l:=⟨_,rfl⟩;rw [hl] at HR HL hlen;clear hl;subst oy;obtain ⟨a1,aS,rfl⟩:=ah HR.out;rw [hlen];have HLEN:Hid (l.length=k):=hlen;clear hlen;have BX:Hid (cN (g j)=false):=IV;have HLO:Hid (∀i,i<j→cN (g i)=true):=wM;clear IV wM;go_wp2_with fail
        go_loop [22] (fun i=>∃m:Nat,m≤j∧i=.int .i64 (m:Int)) (fun i=>j - (intOf i).toNat)
        case atStart=>exact ⟨0,by omega,rfl⟩
        case round=>
         obtain ⟨m,hm,rfl⟩:=hrel;have m8:(m:Int)<64:=by omega
         obtain ⟨c0,c1,c2⟩:=HE.out.fs.ro.cells m (by omega);by_cases hmj:m<j
         ·have ht:=HLO.out m hmj;have q1:((g m).aB !=0)=true:=by simp [ux ht]
          generalize g m=em at *;clear ht;go_wp2_with fail
          go_round
          case rel=>exact ⟨m+1,by omega,by go_num⟩
          case measure=>simp [intOf];omega
         ·obtain rfl:m=j:=by omega
          have ht:=BX.out;have q1:((g m).aB !=0)=false:=by simp [p9 ht]
          obtain ⟨em,hem⟩:∃em,g m=em:=⟨_,rfl⟩;rw [hem] at c0 c1 c2 q1;clear ht hem;have z0:=ax HE.out.fs.ro (m * 3);have z1:=ax HE.out.fs.ro (m * 3+1);have z2:=ax HE.out.fs.ro (m * 3+2);have Vw:Hid (MV w (((wr.setCell ⟨w.heap.size,m * 3,none⟩ (.int .i64 x)).setCell ⟨w.heap.size,m * 3+1,none⟩ (.int .i64 (bs+(k:Int)))).setCell ⟨w.heap.size,m * 3+2,none⟩ (.int .i64 sc)) (upd g m ⟨x,bs+(k:Int),sc⟩) aL (some ⟨b,o,none⟩) L.length J.length cL cJ):=HE.out.E7 m lT x (bs+(k:Int)) sc
          have HR5:Hid ((((wr.setCell ⟨w.heap.size,m * 3,none⟩ (.int .i64 x)).setCell ⟨w.heap.size,m * 3+1,none⟩ (.int .i64 (bs+(k:Int)))).setCell ⟨w.heap.size,m * 3+2,none⟩ (.int .i64 sc)).ownsRow w5.heap.size 113 2 (.slice a1 k aS) k (ps l)):=by
           have h:=HR.out;rw [HLEN.out] at h;exact aY h fun q hq _=>ee (by omega) _ _ _ _ _ _
          have HL5:Hid ((((wr.setCell ⟨w.heap.size,m * 3,none⟩ (.int .i64 x)).setCell ⟨w.heap.size,m * 3+1,none⟩ (.int .i64 (bs+(k:Int)))).setCell ⟨w.heap.size,m * 3+2,none⟩ (.int .i64 sc)).ownsRow (w.heap.size+3) 113 2 vl L.length (ps (eA f L))):=aY uZ.out fun q hq _=>ee (by omega) _ _ _ _ _ _
          have JT:Hid (w5.heap.size≤(((wr.setCell ⟨w.heap.size,m * 3,none⟩ (.int .i64 x)).setCell ⟨w.heap.size,m * 3+1,none⟩ (.int .i64 (bs+(k:Int)))).setCell ⟨w.heap.size,m * 3+2,none⟩ (.int .i64 sc)).heap.size):=Nat.le_trans HS.out (o9 (Below.refl 0 wr) (Nat.zero_le _) _ _ _ _ _ _).size;go_upto_region 29 with (fail)
          generalize ((wr.setCell ⟨w.heap.size,m * 3,none⟩ (.int .i64 x)).setCell ⟨w.heap.size,m * 3+1,none⟩ (.int .i64 (bs+(k:Int)))).setCell ⟨w.heap.size,m * 3+2,none⟩ (.int .i64 sc)=w6 at *;have hrow:=HR5.out;have hsz:=Vw.out.ze.lt;have aa2:w5.heap.size≤w6.heap.size:=JT.out;go_upto_region 30 with (at_builtin;(refine wpList_append_own _ rfl _ _ 51 rfl w5.heap.size 113 i0 (.agg #[.int .i64 0,.int .i64 0]) 2 16 underlying51 hi hz0 hz1 hz2 rfl (by decide) (.slice a1 k aS) k (ps l) rfl (hrow.alloc _) ⟨w6.heap.size,0,none⟩ 1 1 [.int .i64 x,.int .i64 (m:Int)] rfl rfl (cell_two_new _ _ _ _) (by simp [Value.oneCell']) (by unfold maxLen;omega) (by omega) (by simp;omega) ?_);intro v' w7 hown' pY _)
          have HE7:Hid (MV w w7 (upd g m ⟨x,bs+(k:Int),sc⟩) aL (some ⟨b,o,none⟩) L.length J.length cL cJ):=Vw.out.app hrow (by omega) pY
          have HR7:Hid (w7.ownsRow w5.heap.size 113 2 v' (l++[(x,(m:Int))]).length (ps (l++[(x,(m:Int))]))):=by
           show w7.ownsRow _ _ _ _ _ _
           rw [List.length_append,od,HLEN.out];exact hown'
          have HL7:Hid (w7.ownsRow (w.heap.size+3) 113 2 vl L.length (ps (eA f L))):=(HL5.out.alloc _).kept pY (by
           cases hv:vl.ownBlock with
           | none=>exact .inl rfl
           | some q=>exact .inr (b9 hrow (rb.out q hv)))
          have SC:Hid (w5.heap.size≤w7.heap.size):=Nat.le_trans aa2 (Nat.le_trans (by simp) pY.size);clear hown' pY hrow hsz aa2 Vw HR5 HL5 JT;go_wp2_with fail
          go_roundw
          case rel=>
           refine ⟨k+1,_,by omega,by go_num,rfl,?_,?_,HL7.out,SC.out⟩
           ·rw [HA.out];exact HE7.out
           ·rw [HL.out];exact HR7.out
          case measure=>simp [intOf];omega
       ·obtain rfl:k=J.length:=by omega
        have adZ:decide ((J.length:Int)<(J.length:Int))=false:=by simp
        have HEE:Hid (mo f L J sc bs=0):=wm iN.out Gb wO;have RT:Hid (pX f L J sc bs=nN e0 (fU f L J) J sc bs J.length):=by show pX f L J sc bs=_;unfold pX;rw [HEE.out,if_pos rfl,Ev.out]
        have HML:Hid (xD f L J sc bs=eA f L):=by show xD f L J sc bs=_;unfold xD;rw [HEE.out,if_pos rfl]
        have HMJ:Hid (ud f L J sc bs=nO (fU f L J) J J.length):=by show ud f L J sc bs=_;unfold ud;rw [HEE.out,if_pos rfl]
        clear Xl;go_upto_region 31 with (fail)
        refine wp_region_lit ?_;refine iV HE.out.fs.ro rfl _ rfl rfl ?_;go_wp2_with (refine ou HE.out.ze rfl _ _ rfl rfl rfl ?_)
        refine bodyPost_ret (cD (p:=8) (t:=9) (u:=10) (v:=11) rfl _ _ (w.heap.size+2) _ rfl (HE.out.ze.row _)) rfl ?_;refine ⟨⟨vl,vj,?_,?_,?_,?_⟩,ag (by omega) HE.out.fs.aK _⟩
        ·rw [RT.out,HEE.out];rfl
        ·rw [HML.out,ew];exact aV (aP uZ.out HE.out.ze (by decide) _) (by omega)
        ·rw [HMJ.out];exact aV (aP HR.out HE.out.ze (by decide) _) (by omega)
        ·cases hv:vl.ownBlock with
         | none=>exact .inl rfl
         | some q=>exact .inr (b9 HR.out (rb.out q hv))
 ·have h1:(ft f L J==0)=false:=by simp [xH]
  have Ep:Hid (¬ft f L J=0):=xH;clear xH;have HE:Hid (mo f L J sc bs=ft f L J):=Ir Ep.out;go_wp2_with (refine ou (g:=fun _=>zE) iY.ze rfl _ _ rfl rfl iR ?_)
  refine bodyPost_ret (cD (p:=8) (t:=9) (u:=10) (v:=11) rfl _ _ (w.heap.size+2) (fun _=>zE) rfl (iY.ze.row _)) rfl ?_;exact ⟨lp.no HE.out Ep.out,ag (by omega) iY.fs.aK _⟩
/- A list of seats that lies in memory. -/
variable {l:List (Int×Int)}
def iC (w:World) (a:Option Addr) (l:List (Int×Int)):Prop:=∀i,i<l.length→∃b,a=some ⟨b,0,none⟩∧w.cell? ⟨b,i * 2,none⟩=some (.int .i64 (l.getD i (0,0)).1)∧w.cell? ⟨b,i * 2+1,none⟩=some (.int .i64 (l.getD i (0,0)).2)
theorem iC.later {w w':World} {a:Option Addr} (h:iC w a l) (hb:Below w.heap.size w w'):iC w' a l:=fun i hi=>by
 obtain ⟨b,e,c0,c1⟩:=h i hi;exact ⟨b,e,cell_later hb c0,cell_later hb c1⟩
theorem NW (l:List (Int×Int)):∀i,i<l.length→(ps l)[i * 2]? =some (.int .i64 (l.getD i (0,0)).1)∧(ps l)[i * 2+1]? =some (.int .i64 (l.getD i (0,0)).2):=by
 induction l with
 | nil=>intro i hi;cases hi
 | cons p l ih=>
  intro i hi;have e:ps (p::l)=.int .i64 p.1:: .int .i64 p.2::ps l:=rfl;rw [e]
  cases i with
  | zero=>exact ⟨rfl,rfl⟩
  | succ i=>
   have:=ih i (by simpa using hi);rw [show (i+1) * 2=i * 2+1+1 by omega,show i * 2+1+1+1=(i * 2+1)+1+1 by omega]
   simpa using this
theorem Am {W:World} {b:Nat} {v:Value} (h:W.ownsRow b 113 2 v l.length (ps l)):∃a cap,v=.slice a l.length cap∧iC W a l∧∀g o,a=some ⟨g,o,none⟩→v.ownBlock=some g:=by
 rcases h.2 with ⟨rfl,h0⟩ | ⟨g,cap,cur,rfl,h3,h4,h5,h6,h7,h8⟩
 ·have:l=[]:=List.length_eq_zero_iff.1 h0;subst this;exact ⟨none,0,rfl,(fun i hi=>by cases hi),fun g o e=>by cases e⟩
 ·refine ⟨some ⟨g,0,none⟩,cap,rfl,fun i hi=>⟨g,rfl,?_⟩,fun g' o e=>by simp at e;simp [Value.ownBlock,e.1]⟩;obtain ⟨p0,p1⟩:=NW l i hi
  have cell:∀j v,j<l.length * 2→(ps l)[j]? =some v→W.cell? ⟨g,j,none⟩=some v:=fun j v hj hv=>by
   rw [cell_of_row W g j _ _ _ h4,←hv,←h8,List.getElem?_take_of_lt hj];simp
  exact ⟨cell _ _ (by omega) p0,cell _ _ (by omega) p1⟩
set_option maxRecDepth 4000
variable {w:World} {b:Nat}
def cq (l:List Int):List Value:=l.map fun n:Int=>Value.int .i64 n
@[simp] theorem tv (l:List Int):(cq l).length=l.length:=by simp [cq]
theorem Pk (l:List Int):∀u∈cq l,u.oneCell'=true:=by
 intro u hu;simp only [cq,List.mem_map] at hu;obtain ⟨_,_,rfl⟩:=hu;rfl
theorem FK {o:Nat} {ws:List Int} (h:bM w (some ⟨b,o,none⟩) ws):∀j u,(cq ws)[j]? =some u→w.cell? ((⟨b,o,none⟩:Addr).add j)=some u:=fun j u hu=>by
 have hj:j<ws.length:=by
  rcases Nat.lt_or_ge j (cq ws).length with h' | h'
  ·simpa using h'
  ·rw [List.getElem?_eq_none h'] at hu;cases hu
 obtain ⟨b',o',e,c0⟩:=h j hj;obtain ⟨eb,eo⟩:b=b'∧o=o':=by simpa using e
 rw [←eb,←eo] at c0;rw [add_plain,c0];rw [←hu];simp [cq,hj]
theorem qd {P:Program} (base:Nat) (t ty e:TypeId) (i:TypeInfo) (size:Nat) (ht:P.underlying t=some (.slice e)) (hi:P.info? e=some i) (v:Value) (n:Nat) (xs:List Value) (hown:w.ownsRow base e size v n xs) (c:Nat):
  (Builtin.append_ #[t,t] ty #[v,.slice none 0 c]).run P w=.ok v w:=by
 rcases hown.2 with ⟨rfl,rfl⟩ | ⟨g,cap,cur,rfl,_,_,hnc,_⟩
 ·simp [Builtin.append_,run_underlying ht,sizeOf,typeInfo,hi,Builtin.lenOf,Builtin.firstCells]
 ·simp [Builtin.append_,run_underlying ht,sizeOf,typeInfo,hi,Builtin.lenOf,Builtin.firstCells,hnc,storeCells]
theorem LX {ops:Array Oper} {rest:List Oper} {o:Oper} {a:Act} {Q:Exit→Act→World→Prop} (hgd:o.guard=none) (s x:Operand)
  (ho:o.op=.call {callee:=.builtin .append,args:=#[s,x],argTypes:=#[41,41]})
  (base:Nat) (v:Value) (n:Nat) (xs:List Value) (hs:a.eval s=v) (hown:w.ownsRow base 3 1 v n xs) (src:Option Addr) (c:Nat) (ws:List Int) (hx:a.eval x=.slice src ws.length c) (fV:bM w src ws)
  (h63:n+ws.length≤maxLen) (hbytes:(n+ws.length) * 8≤140737488355328) (hbase:base≤w.heap.size)
  (h:∀v' w',w'.ownsRow base 3 1 v' (n+ws.length) (xs++cq ws)→w.grownBy w' v.ownBlock→wpList prog ops Q rest (a.put o.dst v') w'):wpList prog ops Q (o::rest) a w:=by
 obtain ⟨i0,hi,hz0,hz1,hz2⟩:=info_parts iW
 cases src with
 | none=>
  have h0:ws=[]:=by
   cases ws with
   | nil=>rfl
   | cons y r=>obtain ⟨b,o,e,_⟩:=fV 0 (by simp);cases e
  subst h0;refine wpList_plain hgd fun K hK=>?_
  have hrun:=qd (P:=prog) (w:=w) base 41 o.type 3 i0 1 underlying41 hi v n xs hown c;rw [List.length_nil] at hx;unfold Oper.wp;simp [execOp,ho,resolve,invoke,builtin,hs,hx,hrun,Result.andThen];exact hK _ _ (h v w (by simpa [cq] using hown) (Gq _ _))
 | some ad=>
  refine wpList_append_own _ hgd s x 41 ho base 3 i0 _ 1 8 underlying41 hi hz0 hz1 hz2 rfl (by decide) v n xs hs hown ad ws.length c (cq ws) hx (by simp) ?_ (Pk _) h63 hbytes hbase fun v' w' h1 h2 _=>h v' w' h1 h2
  by_cases h0:ws=[]
  ·intro j u hu;rw [h0] at hu;simp [cq] at hu
  ·obtain ⟨b,o',e,-⟩:=fV.spot h0;cases e
   exact FK fV
theorem kQ {W W':World} {e:TypeId} {sz:Nat} {v:Value} {n:Nat} {xs:List Value} (h:W.ownsRow b e sz v n xs) (hk:∀g,v.ownBlock=some g→W'.heap[g]? =W.heap[g]?):W'.ownsRow b e sz v n xs:=by
 obtain ⟨h1,h2⟩:=h;refine ⟨h1,?_⟩;rcases h2 with h2 | ⟨g,cap,cur,rfl,h3,h4,r⟩
 ·exact .inl h2
 ·exact .inr ⟨g,cap,cur,rfl,h3,(hk g (by simp [Value.ownBlock])).trans h4,r⟩
variable {f:Nat→En} {e:En} {i k:Nat}
structure Rt (f:Nat→En):Prop where
 one:∀i,i<64→H4 (f i)=true
 two:∀i j,i<64→j<64→i≠j→xQ (f i) (f j)=false
theorem DT (a b:En):xQ a b=xQ b a:=by
 unfold xQ alike;rw [Bool.and_comm (cN a),show decide (a.who=b.who)=decide (b.who=a.who) by simp [eq_comm],show decide (a.aB=b.aB)=decide (b.aB=a.aB) by simp [eq_comm]]
theorem Ba:lW f=true↔Rt f:=by
 constructor
 ·intro h
  have hi:∀i,i<64→H4 (f i)=true∧∀m,m<i→xQ (f m) (f i)=false:=fun i hi=>by
   have:=Q1 h hi;unfold FD at this;rw [Bool.and_eq_true,List.all_eq_true] at this;refine ⟨this.1,fun m hm=>?_⟩
   simpa using this.2 m (List.mem_range.2 hm)
  refine ⟨fun i h=>(hi i h).1,fun i j h1 h2 hne=>?_⟩;rcases Nat.lt_or_ge i j with g | g
  ·exact (hi j h2).2 i g
  ·rw [DT];exact (hi i h1).2 j (by omega)
 ·intro h;refine DV fun j hj=>?_
  unfold FD;rw [h.one j hj,po fun m hm=>h.two m j (by omega) hj (by omega)];rfl
theorem Zy (a:En):xQ a zE=false:=by simp [xQ,zU]
theorem XR:H4 zE=true:=rfl
theorem XS (h:fw e=true):H4 e=true:=by
 unfold H4
 have:cN e=true:=by
  simp only [fw,Bool.and_eq_true,decide_eq_true_eq] at h;simp [cN];omega
 rw [this,if_pos rfl,h]
theorem Rt.upd (h:Rt f) {j:Nat} (hj:j<64) (he:H4 e=true) (hc:∀i,i<64→i≠j→xQ (f i) e=false):Rt (upd f j e):=by
 refine ⟨fun i hi=>?_,fun i m hi hm hne=>?_⟩
 ·by_cases g:i=j
  ·subst g;rw [upd_same];exact he
  ·rw [upd_ne _ _ g];exact h.one i hi
 ·by_cases g:i=j
  ·subst g;rw [upd_same,upd_ne _ _ (fun e=>hne e.symm),DT];exact hc m hm (fun e=>hne e.symm)
  ·by_cases g2:m=j
   ·subst g2;rw [upd_same,upd_ne _ _ g];exact hc i hi g
   ·rw [upd_ne _ _ g,upd_ne _ _ g2];exact h.two i m hi hm hne
theorem UX (g:Nat→En) (x:Int):BQ g x=if on g x then upd g (fC g x).toNat zE else g:=rfl
theorem Rt.BQ {g:Nat→En} (h:Rt g) (x:Int):Rt (BQ g x):=by
 rw [UX]
 cases ho:on g x with
 | false=>exact h
 | true=>
  obtain ⟨j,hj,lT,_⟩:=Ik ho;rw [if_pos rfl,hj,Int.toNat_natCast];exact h.upd lT XR fun i _ _=>Zy _
theorem Rt.evs:∀{L:List Int} {f:Nat→En},Rt f→Rt (evs f L)
 | [],_,h=>h
 | x::r,f,h=>Rt.evs (L:=r) (h.BQ x)
theorem UW (g:Nat→En) (x:Int) (i:Nat):BQ g x i=g i∨BQ g x i=zE:=by
 unfold BQ;split
 ·by_cases h:i=(fC g x).toNat
  ·right;rw [h,upd_same]
  ·left;rw [upd_ne _ _ h]
 ·exact .inl rfl
theorem uR {i:Nat}:∀{L:List Int} {f:Nat→En},evs f L i=f i∨evs f L i=zE
 | [],_=>.inl rfl
 | x::r,f=>by
  rcases uR (L:=r) (f:=BQ f x) (i:=i) with h | h
  ·rcases UW f x i with h2 | h2
   ·left;exact h.trans h2
   ·right;exact h.trans h2
  ·right;exact h
theorem sQ (G:Nat→En) (T:List Nat) (J:List Int) (sc bs:Int) (i:Nat):∀k,nN G T J sc bs k i=G i∨∃m,m<k∧i=T.getD m 0∧nN G T J sc bs k i=⟨J.getD m 0,bs+(m:Int),sc⟩
 | 0=>.inl rfl
 | k+1=>by
  rw [nN];by_cases h:i=T.getD k 0
  ·right;exact ⟨k,by omega,h,by rw [h,upd_same]⟩
  ·rw [upd_ne _ _ h];rcases sQ G T J sc bs i k with e | ⟨m,h1,h2,h3⟩
   ·exact .inl e
   ·exact .inr ⟨m,by omega,h2,h3⟩
theorem Ze {bs:Int} {n:Nat} (h:um f bs n 64=true) (hi:i<64):¬(bs≤(f i).aB∧(f i).aB<bs+(n:Int)):=by
 intro hc;have:=A4 hi (bs:=bs) (n:=n) (f:=f) (by simp [hc.1,hc.2]);rw [h] at this;cases this
/- A move that is answered. -/
structure Mv (f:Nat→En) (L J:List Int) (sc bs:Int):Prop where
 ok:b6 f L J
 ep:w_ sc=true
 fr:xP f bs J.length=true
section
variable {f:Nat→En} {L J:List Int} {sc bs:Int}
theorem V5 (h:mo f L J sc bs=0):Mv f L J sc bs:=⟨(wj h).1,(wj h).2.1,(wj h).2.2⟩
theorem Mv.rt (h:Mv f L J sc bs):Rt f:=Ba.1 h.ok.lW
theorem Mv.base (h:Mv f L J sc bs) (hk:k<J.length):1≤bs∧bs+(J.length:Int)≤32768:=Gv h.fr (fun e=>by rw [e] at hk;simp at hk)
theorem Mv.fa (h:Mv f L J sc bs) (hk:k<J.length):um f bs J.length 64=true:=by
 have:=h.fr;unfold xP at this;rw [decide_eq_false (show ¬J.length=0 by omega)] at this;simp at this;exact this.2
theorem Mv.slots (h:Mv f L J sc bs) {k:Nat} (hk:k<J.length):RJ (evs f L) (fU f L J) J sc bs k:=h.ok.slots (h.base hk).1 hk
theorem Mv.r (h:mo f L J sc bs=0):pX f L J sc bs=nN (evs f L) (fU f L J) J sc bs J.length:=by unfold pX;rw [if_pos h]
theorem Yf {f:Nat→En} {x:Int} (h:on f x=false) (hi:i<64):at' f x i=false:=by
 have:fC f x=-1:=by rw [Ot] at h;simpa using h
 exact Qu.1 this i hi
theorem OB {J:List Int} {m:Nat} (hk:k<J.length) (hm:m<k) (h:J.getD k 0∉J.take k):J.getD m 0≠J.getD k 0:=by
 intro e;apply h
 rw [←e,List.getD_eq_getElem?_getD,List.getElem?_eq_getElem (by omega)];exact List.mem_take_iff_getElem.2 ⟨m,by omega,rfl⟩
theorem Mv.step (h:Mv f L J sc bs):∀k,k≤J.length→Rt (nN (evs f L) (fU f L J) J sc bs k)
 | 0,_=>h.rt.evs
 | k+1,hk=>by
  have ih:=h.step k (by omega);have hs:=h.slots (show k<J.length by omega);obtain ⟨b1,b2⟩:=h.base (show k<J.length by omega);obtain ⟨j1,j2,j3⟩:=h.ok.jn k (by omega);rw [nN]
  have he:fw ⟨J.getD k 0,bs+(k:Int),sc⟩=true:=by
   simp only [fw,Bool.and_eq_true,decide_eq_true_eq];exact ⟨⟨⟨j1,by omega⟩,by omega⟩,h.ep⟩
  refine ih.upd hs.lt (XS he) fun i hi hne=>?_
  cases ht:cN (nN (evs f L) (fU f L J) J sc bs k i) with
  | false=>unfold xQ;rw [ht];rfl
  | true=>
   have key:(nN (evs f L) (fU f L J) J sc bs k i).who≠J.getD k 0∧(nN (evs f L) (fU f L J) J sc bs k i).aB≠bs+(k:Int):=by
    rcases sQ (evs f L) (fU f L J) J sc bs i k with e | ⟨m,m1,m2,m3⟩
    ·rw [e] at ht ⊢;rcases uR (L:=L) (f:=f) (i:=i) with e2 | e2
     ·rw [e2] at ht ⊢;have ha:=Yf j3 hi;unfold at' at ha;rw [ht] at ha;simp at ha;refine ⟨ha,fun e3=>Ze (h.fa (show k<J.length by omega)) hi ⟨by omega,by omega⟩⟩
     ·rw [e2,zU] at ht;cases ht
    ·rw [m3];refine ⟨OB (by omega) m1 (fun hm=>j2 (List.mem_append.2 (.inr hm))),?_⟩;show bs+(m:Int)≠bs+(k:Int)
     omega
   unfold xQ alike;rw [decide_eq_false key.1,decide_eq_false key.2];simp
theorem KZ (h:mo f L J sc bs=0):lW (pX f L J sc bs)=true:=by
 rw [Mv.r h];exact Ba.2 ((V5 h).step J.length (Nat.le_refl _))
end
section
variable {f:Nat→En} {L J:List Int} {sc bs:Int}
/- The slots that are given are free, and unlike. -/
theorem Z3 {m:Nat} (hm:m<(fU f L J).length):(fU f L J).getD m 0<64∧cN (evs f L ((fU f L J).getD m 0))=false:=by
 have h:(fU f L J).getD m 0∈fU f L J:=by
  rw [List.getD_eq_getElem?_getD,List.getElem?_eq_getElem hm];exact List.getElem_mem _
 have h2:=Ay.1 (List.mem_of_mem_take (show (fU f L J).getD m 0∈(bl (nt (tk (evs f L)))).take J.length from h));refine ⟨h2.1,?_⟩;have h3:=h2.2;rw [mM (fF _) h2.1,lz _ h2.1] at h3
 simpa using h3
/- Who joins. -/
theorem JN (h:Mv f L J sc bs) {m:Nat}:∀k,m<k→k≤J.length→nN (evs f L) (fU f L J) J sc bs k ((fU f L J).getD m 0)=⟨J.getD m 0,bs+(m:Int),sc⟩
 | 0,h1,_=>by omega
 | k+1,h1,h2=>by
  rw [nN];by_cases e:m=k
  ·subst e;rw [upd_same]
  ·have ih:=JN h (m:=m) k (by omega) (by omega);have hs:=h.slots (show k<J.length by omega)
   have hne:(fU f L J).getD m 0≠(fU f L J).getD k 0:=fun e2=>by
    have h3:=hs.free;rw [←e2,ih] at h3;have h4:=(h.base (show k<J.length by omega)).1;simp [cN] at h3;omega
   rw [upd_ne _ _ hne,ih]
theorem uY (T:List Nat) (J:List Int) {m:Nat}:∀k,m<k→(nO T J k).getD m (0,0)=(J.getD m 0,((T.getD m 0:Nat):Int))
 | 0,h=>by omega
 | k+1,h=>by
  rw [nO];by_cases e:m=k
  ·subst e;rw [List.getD_eq_getElem?_getD,List.getElem?_append_right (by rw [bX];omega),bX];simp
  ·have ih:=uY T J (m:=m) k (by omega);rw [List.getD_eq_getElem?_getD,List.getElem?_append_left (by rw [bX];omega),←List.getD_eq_getElem?_getD,ih]
end
end Go.Proofs.YtanaapfobpgibaaGreatDoor.Rs
