/- RsI, RsMath4, RsJ, RsMath5, joined. -/
import Derived.Test.YtanaapfobpgibaaGreatDoorJRsF
open Go.Proofs.Tryz
set_option maxHeartbeats 1000000
namespace Go.Proofs.YtanaapfobpgibaaGreatDoor.Rs
open Go.RowKit Go.Maps
set_option linter.unusedVariables false
set_option linter.unusedSimpArgs false
variable {W:World} {b:Nat} {v:Value}
theorem G7 {b':Nat} {e e':TypeId} {s s' n n':Nat} {v':Value} {xs xs':List Value} (h:W.ownsRow b e s v n xs) (h':W.ownsRow b' e' s' v' n' xs') (hne:e≠e'):v.ownBlock=none∨v.ownBlock≠v'.ownBlock:=by
 rcases h.2 with ⟨rfl,_⟩ | ⟨g,cap,cur,rfl,h3,h4,_⟩
 ·exact .inl rfl
 ·rcases h'.2 with ⟨rfl,_⟩ | ⟨g',cap',cur',rfl,h3',h4',_⟩
  ·exact .inr (by simp [Value.ownBlock])
  ·refine .inr fun he=>?_
   simp [Value.ownBlock] at he;subst he;rw [h4] at h4';simp at h4';exact hne h4'.2
theorem Pd {T:List Nat} (h:W.ownsRow b 3 1 v T.length (nI T)) {k:Nat} (hk:k<T.length):∃g cap,v=.slice (some ⟨g,0,none⟩) T.length cap∧W.cell? ⟨g,k,none⟩=some (.int .i64 ((T.getD k 0:Nat):Int)):=by
 rcases h.2 with ⟨rfl,h0⟩ | ⟨g,cap,cur,rfl,h3,h4,h5,h6,h7,h8⟩
 ·omega
 ·have hc:=World.ownsRow.cellAt h k (by omega);refine ⟨g,cap,rfl,?_⟩;rw [hc];simp [nI,hk]
set_option maxRecDepth 100000 in
theorem LZ (f:Nat→En) (a:Option Addr) (c:Nat) (J:List Int) (sc bs:Int) (w:World) (hT:Tb w) (hJ:bM w a J) (lJ:J.length≤(bl (nt (tk f))).length) (P3:J≠[]→1≤bs∧bs+(J.length:Int)≤32768):
  Calls prog 142 #[.agg (aU f),.slice a J.length c,.int .i64 sc,.int .i64 bs] w fun e w'=>(∃v,e=.returned (.tuple #[.agg (aU (nN f ((bl (nt (tk f))).take J.length) J sc bs J.length)),v])∧w'.ownsRow (w.heap.size+2) 113 2 v J.length (ps (nO ((bl (nt (tk f))).take J.length) J J.length)))∧Below w.heap.size w w':=by
 have jU:=EV.new w f;obtain ⟨i0,hi,hz0,hz1,hz2⟩:=cR;go_enter func142,ntmps142;go_upto_region 2 with (fail)
 rw [rD];generalize (w.alloc (.cells (aU f) 37)).alloc (.cells (aU fun _=>zE) 37)=w1 at *;refine wp_region_lit ?_;refine iV jU.ro rfl _ rfl rfl ?_;have jo:=rN f w1;obtain ⟨cf,hc⟩:∃cf,aU f=cf:=⟨_,rfl⟩;rw [hc] at jo ⊢;clear hc;go_wp2_with fail
 refine jo.mono ?_;rintro r w2 ⟨rfl,hb2⟩;have oz:=jU.later hb2;have hta:=vo (tk f) (fF f) (J.length:Int) w2 (hT.later oz.aK);clear jU jo hb2;go_wp2_with fail
 refine hta.mono ?_;rintro r w3 ⟨hP,hb3⟩;unfold iL at hP;rw [if_neg (by omega),if_neg (by omega),Int.toNat_natCast] at hP;obtain ⟨vT,rfl,hv⟩:=hP;have xN:=oz.later hb3;obtain ⟨T,Mh⟩:∃T,(bl (nt (tk f))).take J.length=T:=⟨_,rfl⟩;have Gj:T.length=J.length:=by rw [←Mh,List.length_take];omega
 have abt:∀i∈T,i<64:=fun i hi=>by rw [←Mh] at hi;exact (Ay.1 (List.mem_of_mem_take hi)).1
 rw [Mh] at hv ⊢;have ad4:J.length≤64:=Nat.le_trans lJ (Bi _);have JX:Hid (EV w w3 f (.slice none 0 0) []):=xN;have HV:Hid (w3.ownsRow (w.heap.size+2) 3 1 vT T.length (nI T)):=aV hv oz.size;have adw:Hid (∀i∈T,i<64):=abt;have HTL:Hid (T.length=J.length):=Gj;have HTT:Hid ((bl (nt (tk f))).take J.length=T):=Mh;have Xl:Hid (J≠[]→1≤bs∧bs+(J.length:Int)≤32768):=P3;clear hta hb3 hv oz xN Mh abt lJ P3;generalize ((pf (tk f) T:Nat):Int)=sw;generalize ((tk f:Nat):Int)=tw;obtain ⟨aT,cT,rfl⟩:=ah HV.out;rw [Gj];clear Gj;go_wp2_with fail
 go_loopw [10,28] (fun v i wx=>∃(k:Nat) (vl:Value),k≤J.length∧i=.int .i64 (k:Int)∧vl=v∧EV w wx (nN f T J sc bs k) vl (nO T J k)∧wx.ownsRow (w.heap.size+2) 3 1 (.slice aT T.length cT) T.length (nI T)) (fun _ i _=>J.length - (intOf i).toNat)
 case atStart=>exact ⟨0,_,by omega,rfl,rfl,JX.out,HV.out⟩
 case round=>
  obtain ⟨k,vl,hk,rfl,rfl,ox,hrt⟩:=hrel;have HE:Hid (EV w wr (nN f T J sc bs k) vl (nO T J k)):=ox;have HR:Hid (wr.ownsRow (w.heap.size+2) 3 1 (.slice aT T.length cT) T.length (nI T)):=hrt;clear ox hrt JX HV;by_cases ki:k<J.length
  ·have i1:(0:Int)≤(k:Int):=by omega
   have i2:(k:Int)<(J.length:Int):=by omega
   have Gj:=HTL.out;obtain ⟨b1,b2⟩:=Xl.out (fun e=>by rw [e] at ki;simp at ki);obtain ⟨b,o,oy,hcell⟩:=(hJ.later HE.out.aK) k ki;obtain ⟨gT,cT',Wv,hcT⟩:=Pd HR.out (show k<T.length by omega);have lT:T.getD k 0<64:=adw.out _ (by rw [List.getD_eq_getElem?_getD,List.getElem?_eq_getElem (by omega)];exact List.getElem_mem _);have HA:Hid (nN f T J sc bs (k+1)=upd (nN f T J sc bs k) (T.getD k 0) ⟨J.getD k 0,bs+(k:Int),sc⟩):=rfl;have HL:Hid (nO T J (k+1)=nO T J k++[(J.getD k 0,((T.getD k 0:Nat):Int))]):=rfl;have hlen:(nO T J k).length=k:=bX T J k;have Ug:IntKind.i64.wrap (bs+(k:Int))=bs+(k:Int):=bC _ (by omega) (by omega);obtain ⟨x,hx⟩:∃x,J.getD k 0=x:=⟨_,rfl⟩;rw [hx] at hcell HA HL;obtain ⟨j,hj⟩:∃j,T.getD k 0=j:=⟨_,rfl⟩;rw [hj] at hcT lT HA HL;clear hx hj b1 b2 Gj;generalize nN f T J sc bs k=g at *;generalize nO T J k=l at *;simp only [Value.slice.injEq] at Wv;obtain ⟨rfl,-,rfl⟩:=Wv;subst oy;obtain ⟨a1,aS,rfl⟩:=ah HE.out.row;rw [hlen];have HLEN:Hid (l.length=k):=hlen;clear hlen;have hrow:wr.ownsRow (w.heap.size+2) 113 2 (.slice a1 k aS) k (ps l):=by have h:=HE.out.row;rw [HLEN.out] at h;exact h
   have hsz:=HE.out.size;go_upto_region 8 with (at_builtin;(refine wpList_append_own _ rfl _ _ 51 rfl (w.heap.size+2) 113 i0 (.agg #[.int .i64 0,.int .i64 0]) 2 16 underlying51 hi hz0 hz1 hz2 rfl (by decide) (.slice a1 k aS) k (ps l) rfl (hrow.alloc _) ⟨wr.heap.size,0,none⟩ 1 1 [.int .i64 x,.int .i64 (j:Int)] rfl rfl (cell_two_new _ _ _ _) (by simp [Value.oneCell']) (by unfold maxLen;omega) (by omega) (by simp;omega) ?_);intro v' w4 hown' hg4 _)
   have Eu:Hid (EV w w4 g v' (l++[(x,(j:Int))])):=HE.out.app (by rw [HLEN.out];exact hown') (by rw [HLEN.out];exact hg4);have HR4:Hid (w4.ownsRow (w.heap.size+2) 3 1 (.slice (some ⟨gT,0,none⟩) T.length cT) T.length (nI T)):=(HR.out.alloc _).kept hg4 (G7 (HR.out.alloc (.cells #[.int .i64 x,.int .i64 (j:Int)] 113)) (hrow.alloc _) (by decide));clear hown' hg4 hrow hsz HE HR hcell hcT;have j1:(j:Int)<64:=by omega
   obtain ⟨c0,c1,c2⟩:=Eu.out.ro.cells j lT;have f0:=ax Eu.out.ro (j * 3);have f1:=ax Eu.out.ro (j * 3+1);have f2:=ax Eu.out.ro (j * 3+2);have Vw:Hid (EV w (((w4.setCell ⟨w.heap.size,j * 3,none⟩ (.int .i64 x)).setCell ⟨w.heap.size,j * 3+1,none⟩ (.int .i64 (bs+(k:Int)))).setCell ⟨w.heap.size,j * 3+2,none⟩ (.int .i64 sc)) (upd g j ⟨x,bs+(k:Int),sc⟩) v' (l++[(x,(j:Int))])):=Eu.out.set j lT x (bs+(k:Int)) sc;have HR5:Hid ((((w4.setCell ⟨w.heap.size,j * 3,none⟩ (.int .i64 x)).setCell ⟨w.heap.size,j * 3+1,none⟩ (.int .i64 (bs+(k:Int)))).setCell ⟨w.heap.size,j * 3+2,none⟩ (.int .i64 sc)).ownsRow (w.heap.size+2) 3 1 (.slice (some ⟨gT,0,none⟩) T.length cT) T.length (nI T)):=aY HR4.out fun j hj _=>ee (by omega) _ _ _ _ _ _
   go_wp2_with fail
   go_roundw
   case rel=>
    refine ⟨k+1,_,by omega,by go_num,rfl,?_,HR5.out⟩;rw [HA.out,HL.out];exact Vw.out
   case measure=>simp [intOf];omega
  ·obtain rfl:k=J.length:=by omega
   have IY:decide ((J.length:Int)<(J.length:Int))=false:=by simp
   clear Xl;go_upto_region 10 with (fail)
   refine wp_region_lit ?_;refine iV HE.out.ro rfl _ rfl rfl ?_;go_wp2_with (refine ou HE.out.ze rfl _ _ rfl rfl rfl ?_)
   refine bodyPost_ret (sW (p:=8) (t:=9) rfl _ _ (w.heap.size+1) (nN f T J sc bs J.length) rfl (HE.out.ze.row _)) rfl ?_;rw [HTT.out];refine ⟨⟨vl,rfl,?_⟩,?_⟩
   ·have h:=HE.out.row;rw [bX] at h;exact aY h fun j hj _=>aq (by omega) _
   ·exact ag (by omega) HE.out.aK _
set_option maxRecDepth 4000
variable {f g:Nat→En} {bs x:Int} {J L:List Int} {j:Nat}
theorem A1 {f:Nat→En} {lv:Bool}:∀{L p:List Int},gg f lv p L=0→∀k,k<L.length→er f lv (p++L.take k) (L.getD k 0)=0
 | [],p,_,k,hk=>by simp at hk
 | x::r,p,h,k,hk=>by
  rw [gg] at h;by_cases h0:er f lv p x=0
  ·rw [if_pos h0] at h
   cases k with
   | zero=>simpa using h0
   | succ k=>
    have:=A1 h k (by simpa using hk)
    simpa using this
  ·rw [if_neg h0] at h;exact absurd h h0
theorem Qq {f:Nat→En} {lv:Bool}:∀{L p:List Int},(∀k,k<L.length→er f lv (p++L.take k) (L.getD k 0)=0)→gg f lv p L=0
 | [],p,_=>rfl
 | x::r,p,h=>by
  have h0:er f lv p x=0:=by simpa using h 0 (by simp)
  rw [gg,if_pos h0];exact Qq fun k hk=>by simpa using h (k+1) (by simpa using hk)
theorem uS {lv:Bool} {p:List Int}:er f lv p x=0↔mv x=true∧x∉p∧on f x=lv:=by
 unfold er
 cases hw:mv x with
 | false=>simp
 | true=>
  by_cases hm:x∈p
  ·simp [hm]
  ·cases lv <;> cases ho:on f x <;> simp [hm]
structure b6 (f:Nat→En) (L J:List Int):Prop where
 lW:lW f=true
 lv:∀k,k<L.length→mv (L.getD k 0)=true∧L.getD k 0∉L.take k∧on f (L.getD k 0)=true
 jn:∀k,k<J.length→mv (J.getD k 0)=true∧J.getD k 0∉L++J.take k∧on f (J.getD k 0)=false
 room:J.length≤64 - cnt f+L.length
theorem zl (h:ft f L J=0):b6 f L J:=by
 unfold ft at h
 cases hc:lW f with
 | false=>rw [hc] at h;simp at h
 | true=>
  rw [hc,if_pos rfl] at h;by_cases h1:gg f true [] L=0
  ·rw [if_pos h1] at h;by_cases h2:gg f false L J=0
   ·rw [if_pos h2] at h;have h3:¬(J.length>64 - cnt f+L.length):=by intro h3;rw [if_pos h3] at h;omega
    refine ⟨hc,fun k hk=>?_,fun k hk=>?_,by omega⟩
    ·have:=uS.1 (A1 h1 k hk)
     simpa using this
    ·exact uS.1 (A1 h2 k hk)
   ·rw [if_neg h2] at h;exact absurd h h2
  ·rw [if_neg h1] at h;exact absurd h h1
theorem I3 (h:b6 f L J):ft f L J=0:=by
 have h1:gg f true [] L=0:=Qq fun k hk=>uS.2 (by simpa using h.lv k hk)
 have h2:gg f false L J=0:=Qq fun k hk=>uS.2 (h.jn k hk)
 rw [qN h.lW h1 h2,if_neg (by have:=h.room;omega)]
/- Where somebody is found hangs on the seats that are taken with that number alone. -/
theorem DJ {f g:Nat→En} {x:Int}:∀(n k:Nat),(∀i,k≤i→i<k+n→at' f x i=at' g x i)→fd f x k n=fd g x k n
 | 0,k,_=>rfl
 | n+1,k,h=>by
  unfold fd;rw [h k (Nat.le_refl _) (by omega),DJ n (k+1) fun i h1 h2=>h i (by omega) (by omega)]
theorem zm (h:∀i,i<64→at' f x i=at' g x i):fC f x=fC g x:=DJ 64 0 fun i _ hi=>h i (by omega)
theorem Ik (h:on f x=true):∃j:Nat,fC f x=(j:Int)∧j<64∧at' f x j=true:=by
 rcases sG f x with e | ⟨j,e,h1,h2,_⟩
 ·unfold on at h;rw [e] at h;simp at h
 ·exact ⟨j,e,h1,h2⟩
theorem G4 {i:Nat} (h:at' f x i=true):cN (f i)=true∧(f i).who=x:=by simpa [at'] using h
theorem zU:cN zE=false:=rfl
theorem Rz {y:Int} (hne:x≠y) (i:Nat):at' (BQ g y) x i=at' g x i:=by
 unfold BQ
 cases ho:on g y with
 | false=>rfl
 | true=>
  obtain ⟨j,hj,lT,ha⟩:=Ik ho;obtain ⟨h1,h2⟩:=G4 ha;rw [if_pos rfl,hj,Int.toNat_natCast];by_cases hi:i=j
  ·subst hi;unfold at';rw [upd_same,zU,h2];have hd:decide (y=x)=false:=decide_eq_false (fun e=>hne e.symm);rw [hd];simp
  ·unfold at';rw [upd_ne _ _ hi]
theorem Ry {x:Int} {i:Nat}:∀{L:List Int} {f:Nat→En},x∉L→at' (evs f L) x i=at' f x i
 | [],f,_=>rfl
 | y::r,f,h=>by
  have h1:x≠y:=fun e=>h (by simp [e])
  have h2:x∉r:=fun e=>h (by simp [e])
  show at' (evs (BQ f y) r) x i=_
  rw [Ry h2,Rz h1]
theorem UM (h:x∉L):fC (evs f L) x=fC f x:=zm fun i _=>Ry h
theorem Ou (h:x∉L):on (evs f L) x=on f x:=by unfold on;rw [UM h]
theorem b6.out (h:b6 f L J):∀k,k<L.length→on (evs f (L.take k)) (L.getD k 0)=true:=fun k hk=>by
 obtain ⟨_,h2,h3⟩:=h.lv k hk;rw [Ou h2];exact h3
/- How many are on. -/
theorem MQ (g:Nat→En) (hj:j<64) (e:En):tk (upd g j e)=if cN e then put (tk g) j else drp (tk g) j:=by
 apply jF (fF _) (by split;exact pD (fF _) hj;exact QQ (fF _))
 intro i hi;rw [lz _ hi];by_cases h:i=j
 ·subst h;rw [upd_same]
  cases he:cN e with
  | true=>rw [if_pos rfl,iU];simp
  | false=>rw [if_neg (by simp),uT hj hi];simp
 ·rw [upd_ne _ _ h];have hd:decide (j=i)=false:=decide_eq_false (fun e=>h e.symm);split
  ·rw [iU,hd,Bool.false_or,lz _ hi]
  ·rw [uT hj hi,hd,lz _ hi];rfl
theorem NQ {s:Nat} (hs:s<18446744073709551616) (hj:j<64) (h:s.testBit j=true):put s j=s:=by
 apply jF (pD hs hj) hs
 intro i hi;rw [iU];by_cases e:j=i
 ·subst e;simp [h]
 ·simp [e]
theorem QY (hj:j<64) (h:cN (g j)=true) {e:En} (he:cN e=false):cnt (upd g j e)+1=cnt g:=by
 unfold cnt;rw [MQ g hj e,he,if_neg (by simp)];have h1:=TC (fF g) hj;rw [NQ (fF g) hj (by rw [lz g hj];exact h)] at h1;omega
theorem Vd (h:on g x=true):cnt (BQ g x)+1=cnt g:=by
 obtain ⟨j,hj,lT,ha⟩:=Ik h;rw [Gz hj];exact QY lT (G4 ha).1 zU
theorem Jv {f:Nat→En} {L:List Int} (h:∀k,k<L.length→on (evs f (L.take k)) (L.getD k 0)=true):∀k,k≤L.length→cnt (evs f (L.take k))+k=cnt f
 | 0,_=>rfl
 | k+1,hk=>by
  have ih:=Jv h k (by omega)
  have e:L.take (k+1)=L.take k++[L.getD k 0]:=by
   rw [List.take_succ_eq_append_getElem (by omega)];simp [List.getD,show k<L.length by omega]
  rw [e,wY];have:=Vd (h k (by omega));omega
theorem b6.cnt (h:b6 f L J):cnt (evs f L)+L.length=cnt f:=by
 have:=Jv h.out L.length (Nat.le_refl _)
 rwa [List.take_length] at this
theorem b6.CV (h:b6 f L J):L.length≤64:=by have:=h.cnt;have:=sI f;omega
theorem b6.free (h:b6 f L J):J.length≤(bl (nt (tk (evs f L)))).length:=by
 rw [QX];have h1:=h.cnt;have h2:=h.room;have h3:=sI f;have h4:=sI (evs f L);omega
theorem b6.CW (h:b6 f L J):J.length≤64:=Nat.le_trans h.free (Bi _)
theorem Gv (h:xP f bs J.length=true) (h0:J≠[]):1≤bs∧bs+(J.length:Int)≤32768:=by
 unfold xP at h;have h1:decide (J.length=0)=false:=decide_eq_false fun e=>h0 (List.length_eq_zero_iff.1 e)
 rw [h1] at h;simp at h;omega
theorem wj {sc:Int} (h:mo f L J sc bs=0):b6 f L J∧w_ sc=true∧xP f bs J.length=true:=by
 unfold mo at h;by_cases h1:ft f L J=0
 ·rw [if_pos h1] at h
  cases h2:w_ sc with
  | false=>rw [h2] at h;simp at h
  | true=>
   rw [h2,if_pos rfl] at h
   cases h3:xP f bs J.length with
   | false=>rw [h3] at h;simp at h
   | true=>exact ⟨zl h1,rfl,rfl⟩
 ·rw [if_neg h1] at h;exact absurd h h1
theorem wm {sc:Int} (h1:b6 f L J) (h2:w_ sc=true) (h3:xP f bs J.length=true):mo f L J sc bs=0:=by
 unfold mo;rw [if_pos (I3 h1),h2,if_pos rfl,h3,if_pos rfl]
/- What a move answers. -/
variable {f:Nat→En} {J L:List Int} {bs:Int} {v:Value} {W:World} {b n:Nat} {e:TypeId} {xs:List Value}
structure abS (w w':World) (f:Nat→En) (L J:List Int) (sc bs:Int) (vl vj:Value):Prop where
 left:w'.ownsRow w.heap.size 113 2 vl (xD f L J sc bs).length (ps (xD f L J sc bs))
 join:w'.ownsRow w.heap.size 113 2 vj (ud f L J sc bs).length (ps (ud f L J sc bs))
 apart:vl.ownBlock=none∨vl.ownBlock≠vj.ownBlock
def lp (w w':World) (f:Nat→En) (L J:List Int) (sc bs:Int) (e:Ending):Prop:=∃vl vj,e=.returned (.tuple #[.agg (aU (pX f L J sc bs)),vl,vj,.int .i64 (mo f L J sc bs)])∧abS w w' f L J sc bs vl vj
theorem lp.no {w w':World} {sc:Int} {E:Int} (h:mo f L J sc bs=E) (h0:E≠0):lp w w' f L J sc bs (.returned (.tuple #[.agg (aU fun _=>zE),.slice none 0 0,.slice none 0 0,.int .i64 E])):=by
 have e1:pX f L J sc bs=fun _=>zE:=by unfold pX;rw [h,if_neg h0]
 have e2:xD f L J sc bs=[]:=by unfold xD;rw [h,if_neg h0]
 have e3:ud f L J sc bs=[]:=by unfold ud;rw [h,if_neg h0]
 refine ⟨_,_,by rw [e1,h],?_,?_,.inl rfl⟩
 ·rw [e2];exact World.ownsRow_nil _ _ _ _
 ·rw [e3];exact World.ownsRow_nil _ _ _ _
theorem cD {fn:Func} {p t u v:Tmp} (hf:fn.results=#[.cell p 37,.tmp t,.tmp u,.tmp v]) (tmps:Array Value) (W:World) (B:Nat) (f:Nat→En) (hp:tmps[p]? =some (.pointer (some ⟨B,0,none⟩))) (hb:bg W B f):
  (results fn tmps).run prog W=.ok (.tuple #[.agg (aU f),tmps.getD t undef,tmps.getD u undef,tmps.getD v undef]) W:=by
 have h:=run_loadVar_row W B _ 37 _ _ _ hb underlying37 rfl (by rw [fg];exact sA);simp [results,hf,hp,asAddr,h]
/- The roster and the batch, boxed, and the answer's place. -/
structure MV (w W:World) (f:Nat→En) (aL aJ:Option Addr) (nL nJ cL cJ:Nat):Prop where
 fs:FS w W f aL aJ nL nJ cL cJ
 ze:bg W (w.heap.size+2) (fun _=>zE)
theorem MV.later {w W W':World} {f:Nat→En} {aL aJ:Option Addr} {nL nJ cL cJ:Nat} (h:MV w W f aL aJ nL nJ cL cJ) (hb:Below W.heap.size W W'):MV w W' f aL aJ nL nJ cL cJ:=⟨h.fs.later hb,h.ze.later hb⟩
theorem MV.new (w:World) (f:Nat→En) (aL aJ:Option Addr) (nL nJ cL cJ:Nat):MV w (((w.alloc (.cells (aU f) 37)).alloc (.cells #[.slice aL nL cL,.slice aJ nJ cJ] 43)).alloc (.cells (aU fun _=>zE) 37)) f aL aJ nL nJ cL cJ:=by
 have h2:=bg.new ((w.alloc (.cells (aU f) 37)).alloc (.cells #[.slice aL nL cL,.slice aJ nJ cJ] 43)) (fun _=>zE);rw [World.size_alloc,World.size_alloc] at h2;exact ⟨(FS.new w f aL aJ nL nJ cL cJ).later (dr _ _),h2⟩
theorem Ir {sc:Int} (h:ft f L J≠0):mo f L J sc bs=ft f L J:=by unfold mo;rw [if_neg h]
theorem FQ {sc:Int} (h:ft f L J=0) (h2:w_ sc=false):mo f L J sc bs=19:=by unfold mo;rw [if_pos h,h2];rfl
theorem uI {sc:Int} (h:ft f L J=0) (h2:w_ sc=true) (h3:xP f bs J.length=false):mo f L J sc bs=3:=by unfold mo;rw [if_pos h,h2,if_pos rfl,h3];rfl
theorem aP {sz:Nat} (h:W.ownsRow b e sz v n xs) {B:Nat} {cs:Array Value} {t:TypeId} (hB:W.heap[B]? =some (.cells cs t (0,0))) (hne:e≠t) (cs':Array Value):(W.setRow B cs').ownsRow b e sz v n xs:=by
 obtain ⟨h1,h2⟩:=h;refine ⟨h1,?_⟩;rcases h2 with h2 | ⟨g,cap,cur,rfl,h3,h4,r⟩
 ·exact .inl h2
 ·refine .inr ⟨g,cap,cur,rfl,h3,(aq (fun e=>?_) _).trans h4,r⟩;subst e;rw [hB] at h4;simp at h4;exact hne h4.2.symm
theorem tQ {W':World} {b':Nat} {e':TypeId} {s s' n':Nat} {v':Value} {xs':List Value} (h:W.ownsRow b e s v n xs) (h':W'.ownsRow (W.heap.size+b') e' s' v' n' xs'):v.ownBlock=none∨v.ownBlock≠v'.ownBlock:=by
 rcases h.2 with ⟨rfl,_⟩ | ⟨g,cap,cur,rfl,h3,h4,_⟩
 ·exact .inl rfl
 ·rcases h'.2 with ⟨rfl,_⟩ | ⟨g',cap',cur',rfl,h3',h4',_⟩
  ·exact .inr (by simp [Value.ownBlock])
  ·refine .inr fun he=>?_
   simp [Value.ownBlock] at he;have:=(Array.getElem?_eq_some_iff.1 h4).1;omega
theorem iR:Value.agg zeroCells37=.agg (aU fun _=>zE):=by rw [rD]
theorem dC (w:World):w.alloc (.cells zeroCells37 37)=w.alloc (.cells (aU fun _=>zE) 37):=by rw [rD]
set_option maxRecDepth 100000 in
theorem CT (f:Nat→En) (aL aJ:Option Addr) (cL cJ:Nat) (L J:List Int) (sc bs:Int) (w:World) (hT:Tb w) (lL:L.length<1152921504606846976) (lJ:J.length<1152921504606846976) (hL:bM w aL L) (hJ:bM w aJ J):
  Calls prog 104 #[.agg (aU f),.agg #[.slice aL L.length cL,.slice aJ J.length cJ],.int .i64 sc,.int .i64 bs] w fun e w'=>lp w w' f L J sc bs e∧Below w.heap.size w w':=by
 have Lu:=MV.new w f aL aJ L.length J.length cL cJ;go_enter func104,ntmps104;go_upto_region 1 with (fail)
 rw [rD];generalize ((w.alloc (.cells (aU f) 37)).alloc (.cells #[.slice aL L.length cL,.slice aJ J.length cJ] 43)).alloc (.cells (aU fun _=>zE) 37)=w1 at *;refine wp_region_lit ?_;refine iV Lu.fs.ro rfl _ rfl rfl ?_;obtain ⟨cl,cj⟩:=Lu.fs.cells;have tG:=DC f aL aJ cL cJ L J w1 lL lJ (hL.later Lu.fs.aK) (hJ.later Lu.fs.aK);obtain ⟨cf,hc⟩:∃cf,aU f=cf:=⟨_,rfl⟩;rw [hc] at tG ⊢;go_wp2_with fail
 refine tG.mono ?_;rintro r w2 ⟨rfl,hb2⟩;have iY:=Lu.later hb2;clear Lu hb2 tG cl cj;by_cases xH:ft f L J=0
 ·rw [xH];have BO:=tq sc
  cases Gb:w_ sc with
  | false=>
   rw [Gb] at BO;go_wp2_with (first | (go_at_call 139;refine (BO _).mono ?_;rintro r w3 ⟨rfl,rfl⟩) | (refine ou (g:=fun _=>zE) iY.ze rfl _ _ rfl rfl iR ?_))
   refine bodyPost_ret (cD (p:=8) (t:=9) (u:=10) (v:=11) rfl _ _ (w.heap.size+2) (fun _=>zE) rfl (iY.ze.row _)) rfl ?_;exact ⟨lp.no (FQ xH Gb) (by decide),ag (by omega) iY.fs.aK _⟩
  | true=>
   rw [Gb] at BO;go_upto_region 6 with (go_at_call 139;refine (BO _).mono ?_;rintro r w3 ⟨rfl,rfl⟩)
   refine wp_region_lit ?_;refine iV iY.fs.ro rfl _ rfl rfl ?_;obtain ⟨cl,cj⟩:=iY.fs.cells;have haf:=nM f bs J.length lJ w3;rw [hc] at haf ⊢;go_wp2_with fail
   refine haf.mono ?_;rintro r w4 ⟨rfl,hb4⟩;have Mj:=iY.later hb4;clear haf hb4 iY cl cj BO
   cases wO:xP f bs J.length with
   | false=>
    go_wp2_with (refine ou (g:=fun _=>zE) Mj.ze rfl _ _ rfl rfl iR ?_)
    refine bodyPost_ret (cD (p:=8) (t:=9) (u:=10) (v:=11) rfl _ _ (w.heap.size+2) (fun _=>zE) rfl (Mj.ze.row _)) rfl ?_;exact ⟨lp.no (uI xH Gb wO) (by decide),ag (by omega) Mj.fs.aK _⟩
   | true=>
    have iN:Hid (b6 f L J):=zl xH;have HE:Hid (mo f L J sc bs=0):=wm iN.out Gb wO;have HR:Hid (pX f L J sc bs=nN (evs f L) (fU f L J) J sc bs J.length):=by show pX f L J sc bs=_;unfold pX;rw [HE.out,if_pos rfl]
    have HL:Hid (xD f L J sc bs=eA f L):=by show xD f L J sc bs=_;unfold xD;rw [HE.out,if_pos rfl]
    have HJ:Hid (ud f L J sc bs=nO (fU f L J) J J.length):=by show ud f L J sc bs=_;unfold ud;rw [HE.out,if_pos rfl]
    go_upto_region 8 with (fail)
    refine wp_region_lit ?_;refine iV Mj.fs.ro rfl _ rfl rfl ?_;obtain ⟨cl,cj⟩:=Mj.fs.cells;have ox:=LC f aL cL L w4 (Nat.le_trans iN.out.CV (by omega)) (hL.later Mj.fs.aK) iN.out.out;rw [hc] at ox ⊢;go_wp2_with fail
    refine ox.mono ?_;rintro r w5 ⟨⟨vl,rfl,hrow⟩,dT⟩;have hM5:=Mj.later dT;have hz5:bg (w5.alloc (.cells zeroCells37 37)) w5.heap.size (fun _=>zE):=by rw [dC];exact bg.new _ _
    have hs5:w4.heap.size≤w5.heap.size:=dT.size;have hs4:w.heap.size+2<w4.heap.size:=Mj.ze.lt;have dF:Hid (w5.ownsRow (w4.heap.size+2) 113 2 vl L.length (ps (eA f L))):=hrow;clear ox dT cl cj hrow Mj;go_upto_region 9 with (refine ou (g:=evs f L) hz5 rfl _ _ rfl rfl rfl ?_)
    rw [dC,World.setRow_alloc_new];have hR6:=bg.new w5 (evs f L);have dS:=dr w5 (evs f L);have hM6:=hM5.later dS;have kv:Hid ((w5.alloc (.cells (aU (evs f L)) 37)).ownsRow (w4.heap.size+2) 113 2 vl L.length (ps (eA f L))):=ar dF.out dS;have hs6:w5.heap.size<(w5.alloc (.cells (aU (evs f L)) 37)).heap.size:=by simp
    clear dS hz5 dF;generalize w5.alloc (.cells (aU (evs f L)) 37)=w6 at *;refine wp_region_lit ?_;refine iV hR6 rfl _ rfl rfl ?_;obtain ⟨cl,cj⟩:=hM6.fs.cells;have had:=LZ (evs f L) aJ cJ J sc bs w6 (hT.later hM6.fs.aK) (hJ.later hM6.fs.aK) iN.out.free (Gv wO);obtain ⟨ce,hce⟩:∃ce,aU (evs f L)=ce:=⟨_,rfl⟩;rw [hce] at had ⊢;clear hM5;go_wp2_with fail
    refine had.mono ?_;rintro r w7 ⟨⟨vj,rfl,Pt⟩,iK⟩;have Wz:=hR6.later iK;have hM7:=hM6.later iK;have HL7:Hid (w7.ownsRow (w4.heap.size+2) 113 2 vl L.length (ps (eA f L))):=ar kv.out iK;have HJ7:Hid (w7.ownsRow (w6.heap.size+2) 113 2 vj J.length (ps (nO (fU f L J) J J.length))):=Pt;have rb:Hid (vl.ownBlock=none∨vl.ownBlock≠vj.ownBlock):=tQ kv.out Pt;have hs7:w6.heap.size≤w7.heap.size:=iK.size;clear had iK Pt hM6 hR6 cl cj;obtain ⟨ga,hga⟩:∃ga,nN (evs f L) ((bl (nt (tk (evs f L)))).take J.length) J sc bs J.length=ga:=⟨_,rfl⟩;have HGA:Hid (pX f L J sc bs=ga):=by show pX f L J sc bs=ga;rw [HR.out];exact hga
    rw [hga];clear hga;go_upto_region 10 with (refine ou (g:=ga) Wz rfl _ _ rfl rfl rfl ?_)
    have hR8:=Wz.row ga;have hne:w.heap.size+2≠w5.heap.size:=by omega
    have hZ8:bg (w7.setRow w5.heap.size (aU ga)) (w.heap.size+2) (fun _=>zE):=(aq hne _).trans hM7.ze;have hB8:Below w.heap.size w (w7.setRow w5.heap.size (aU ga)):=ag (by omega) hM7.fs.aK _;have HL8:Hid ((w7.setRow w5.heap.size (aU ga)).ownsRow w.heap.size 113 2 vl L.length (ps (eA f L))):=aV (aP HL7.out Wz (by decide) _) (by omega);have JW:Hid ((w7.setRow w5.heap.size (aU ga)).ownsRow w.heap.size 113 2 vj J.length (ps (nO (fU f L J) J J.length))):=aV (aP HJ7.out Wz (by decide) _) (by omega);clear HL7 HJ7 Wz hM7;generalize w7.setRow w5.heap.size (aU ga)=w8 at *;refine wp_region_lit ?_;refine iV hR8 rfl _ rfl rfl ?_;go_wp2_with (refine ou (g:=ga) hZ8 rfl _ _ rfl rfl rfl ?_)
    refine bodyPost_ret (cD (p:=8) (t:=9) (u:=10) (v:=11) rfl _ _ (w.heap.size+2) ga rfl (hZ8.row _)) rfl ?_;refine ⟨⟨vl,vj,?_,?_,?_,rb.out⟩,ag (by omega) hB8 _⟩
    ·rw [HGA.out,HE.out];rfl
    ·rw [HL.out,ew];exact aP HL8.out hZ8 (by decide) _
    ·rw [HJ.out,bX];exact aP JW.out hZ8 (by decide) _
 ·have h1:(ft f L J==0)=false:=by simp [xH]
  have Ep:Hid (¬ft f L J=0):=xH;clear xH;have HE:Hid (mo f L J sc bs=ft f L J):=Ir Ep.out;go_wp2_with (refine ou (g:=fun _=>zE) iY.ze rfl _ _ rfl rfl iR ?_)
  refine bodyPost_ret (cD (p:=8) (t:=9) (u:=10) (v:=11) rfl _ _ (w.heap.size+2) (fun _=>zE) rfl (iY.ze.row _)) rfl ?_;exact ⟨lp.no HE.out Ep.out,ag (by omega) iY.fs.aK _⟩
variable {k:Nat} {f:Nat→En} {J L:List Int} {bs:Int}
theorem J9 {T:List Nat} (h:k<T.length):T.take (k+1)=T.take k++[T.getD k 0]:=by
 rw [List.take_succ_eq_append_getElem h];simp [List.getD,h]
theorem MS {f:Nat→En} {T:List Nat} {J:List Int} {sc bs:Int} (hT:∀i∈T,i<64) (hb:1≤bs):∀k,k≤T.length→tk (nN f T J sc bs k)=pf (tk f) (T.take k)
 | 0,_=>rfl
 | k+1,hk=>by
  have ih:=MS (f:=f) (J:=J) (sc:=sc) hT hb k (by omega);have Sy:T.getD k 0<64:=hT _ (by rw [List.getD_eq_getElem?_getD,List.getElem?_eq_getElem (by omega)];exact List.getElem_mem _);have ht:cN ⟨J.getD k 0,bs+(k:Int),sc⟩=true:=by simp [cN];omega
  rw [nN,MQ _ Sy,ht,if_pos rfl,ih,J9 (by omega),Ak]
theorem Vk {s t:Nat} {r:List Nat} (h:bl s=t::r):s.testBit t=true∧t<64∧∀i,i<t→s.testBit i=false:=by
 obtain ⟨_,h2,h3,h4⟩:=JE h;refine ⟨h3,by omega,fun i hi=>?_⟩
 cases hb:s.testBit i with
 | false=>rfl
 | true=>
  have hm:i∈bl s:=Ay.2 ⟨by omega,hb⟩;rw [h] at hm;rcases List.mem_cons.1 hm with e | e
  ·omega
  ·rw [h4] at e;have:=(Az.1 e).1;omega
/- The slots that are given. -/
structure RJ (f:Nat→En) (T:List Nat) (J:List Int) (sc bs:Int) (k:Nat):Prop where
 lt:T.getD k 0<64
 free:cN (nN f T J sc bs k (T.getD k 0))=false
 low:∀i,i<T.getD k 0→cN (nN f T J sc bs k i)=true
theorem Na {sc:Int} {n:Nat} (hn:n≤(bl (nt (tk f))).length) (hb:1≤bs) (hk:k<n):RJ f ((bl (nt (tk f))).take n) J sc bs k:=by
 have hT:∀i∈(bl (nt (tk f))).take n,i<64:=fun i hi=>(Ay.1 (List.mem_of_mem_take hi)).1
 have hl:((bl (nt (tk f))).take n).length=n:=by rw [List.length_take];omega
 have ht:=MS (f:=f) (J:=J) (sc:=sc) hT hb k (by omega);rw [List.take_take,Nat.min_eq_left (by omega)] at ht;have hd:=WU k (fF f);rw [←ht,List.drop_eq_getElem_cons (show k<(bl (nt (tk f))).length by omega)] at hd;obtain ⟨h1,h2,h3⟩:=Vk hd
 have e:((bl (nt (tk f))).take n).getD k 0=(bl (nt (tk f)))[k]:=by
  rw [List.getD_eq_getElem?_getD,List.getElem?_eq_getElem (by omega),List.getElem_take];rfl
 rw [←e] at h1 h2 h3;refine ⟨h2,?_,fun i hi=>?_⟩
 ·rw [mM (fF _) h2,lz _ h2] at h1
  simpa using h1
 ·have:=h3 i hi;rw [mM (fF _) (by omega),lz _ (by omega)] at this
  simpa using this
theorem b6.slots (h:b6 f L J) {sc:Int} (hb:1≤bs) (hk:k<J.length):RJ (evs f L) (fU f L J) J sc bs k:=Na h.free hb hk
theorem b6.aaU (h:b6 f L J):(fU f L J).length=J.length:=by
 unfold fU;have:=h.free;rw [List.length_take];omega
end Go.Proofs.YtanaapfobpgibaaGreatDoor.Rs
