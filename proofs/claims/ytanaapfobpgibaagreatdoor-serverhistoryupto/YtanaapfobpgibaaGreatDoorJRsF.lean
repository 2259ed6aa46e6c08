/- RsF, RsMath3, RsN, RsG, RsH, joined. -/
import Derived.Test.YtanaapfobpgibaaGreatDoorJRsC
import Derived.Deep.AppendLies
open Go.Proofs.Tryz
set_option maxHeartbeats 4000000
namespace Go.Proofs.YtanaapfobpgibaaGreatDoor.Rs
open Go.RowKit
set_option linter.unusedVariables false
set_option linter.unusedSimpArgs false
theorem YB:(prog.info? 183).map (·.size)=some 256:=by kernel_rfl
theorem Xo:zeroCells183=xC []:=by kernel_rfl
theorem aaW {ops:Array Oper} {rest:List Oper} {o:Oper} {a:Act} {w:World} {Q:Exit→Act→World→Prop} {B:Nat} {l:List Int} (h:dN w B 183 l) (hgd:o.guard=none) (x:Operand) (ho:o.op=.load 183 x)
  (hx:a.eval x=.pointer (some ⟨B,0,none⟩)) (k:wpList prog ops Q rest (a.put o.dst (.agg (xC l))) w):wpList prog ops Q (o::rest) a w:=
 wpList_load_row hgd 183 x ho B hx 183 (xC l) (0,0) _ h underlying183 rfl (by rw [M_];exact YB) k
theorem Qy {f:Nat→En} {lv:Bool} {pr:List Int} {x:Int} (h:er f lv pr x=0):mv x=true:=by
 cases hw:mv x with
 | true=>rfl
 | false=>simp [er,hw] at h
set_option maxRecDepth 100000 in
theorem vV (f:Nat→En) (l:List Int) (x:Int) (lv:Bool) (w:World):
  Calls prog 80 #[.agg (aU f),.agg (xC l),.int .i64 x,.bool lv] w fun e w'=>e=.returned (.int .i64 (er f lv l x))∧Below w.heap.size w w':=by
 have Es:Hid (er f lv l x=if mv x then (if decide (x∈l) then 15 else if lv then (if on f x then 0 else 16) else (if on f x then 17 else 0)) else 14):=rfl;have b2:Below (w.alloc (.cells (aU f) 37)).heap.size (w.alloc (.cells (aU f) 37)) ((w.alloc (.cells (aU f) 37)).alloc (.cells (xC l) 183)):=(Below.refl _ _).alloc (Nat.le_refl _) _;have hR:=(bg.new w f).later b2;have hS:=dN.new (w.alloc (.cells (aU f) 37)) 183 l;rw [World.size_alloc] at hS;have hB:=(dr w f).trans (b2.mono (by simp));go_enter func80,ntmps80;go_upto_region 1 with (fail)
 generalize (w.alloc (.cells (aU f) 37)).alloc (.cells (xC l) 183)=w2 at *;clear b2
 cases hw:mv x with
 | false=>
  have he:er f lv l x=14:=by rw [Es.out,hw];rfl
  have HE:Hid (er f lv l x=14):=he;clear he;obtain ⟨c,hc⟩:∃c,aU f=c:=⟨_,rfl⟩;rw [hc];obtain ⟨c2,hc2⟩:∃c2,xC l=c2:=⟨_,rfl⟩;rw [hc2];clear hc hc2;by_cases h0:x<0
  ·go_wp2_with fail
   go_ret;exact ⟨aj (by rw [HE.out]),hB⟩
  ·have h1:256≤x:=by simp [mv] at hw;omega
   go_wp2_with fail
   go_ret;exact ⟨aj (by rw [HE.out]),hB⟩
 | true=>
  obtain ⟨k,rfl,hk⟩:=nU hw;have k0:¬((k:Int)<0):=by omega
  have k1:(k:Int)<256:=by omega
  have k2:¬(256≤(k:Int)):=by omega
  go_upto_region 3 with (fail)
  refine wp_region_lit ?_;refine iV hR rfl _ rfl rfl ?_;obtain ⟨c,hc⟩:∃c,aU f=c:=⟨_,rfl⟩;have tG:=rY f (k:Int) w2;rw [hc] at tG ⊢;obtain ⟨c2,hc2⟩:∃c2,xC l=c2:=⟨_,rfl⟩;rw [hc2];clear hc hc2;go_wp2_with fail
  refine tG.mono ?_;rintro r w3 ⟨rfl,hb3⟩;have hc:=(hS.later hb3).cell k hk;have HB:Hid (Below w.heap.size w w3):=hB.trans (hb3.mono hB.size);have Xa:Hid (on f (k:Int)=decide (0≤fC f (k:Int))):=rfl;clear tG hb3 hR hS hB;obtain ⟨m,hm⟩:∃m,decide ((k:Int)∈l)=m:=⟨_,rfl⟩;rw [hm] at hc;have HM:Hid (decide ((k:Int)∈l)=m):=hm;clear hm;generalize fC f (k:Int)=fi at *;by_cases h0:0≤fi
  ·have iF:Hid (on f (k:Int)=true):=by show on f (k:Int)=true;rw [Xa.out];simp [h0]
   cases m with
   | true=>
    go_wp2_with fail
    go_ret;exact ⟨aj (by rw [Es.out,hw,HM.out];rfl),HB.out⟩
   | false=>
    cases lv with
    | true=>
     go_wp2_with fail
     go_ret;exact ⟨aj (by rw [Es.out,hw,HM.out,iF.out];rfl),HB.out⟩
    | false=>
     go_wp2_with fail
     go_ret;exact ⟨aj (by rw [Es.out,hw,HM.out,iF.out];rfl),HB.out⟩
  ·have iF:Hid (on f (k:Int)=false):=by show on f (k:Int)=false;rw [Xa.out];simp [h0]
   have hd0:decide (0≤fi)=false:=by simp;omega
   cases m with
   | true=>
    go_wp2_with fail
    go_ret;exact ⟨aj (by rw [Es.out,hw,HM.out];rfl),HB.out⟩
   | false=>
    cases lv with
    | true=>
     go_wp2_with fail
     go_ret;exact ⟨aj (by rw [Es.out,hw,HM.out,iF.out];rfl),HB.out⟩
    | false=>
     go_wp2_with fail
     go_ret;exact ⟨aj (by rw [Es.out,hw,HM.out,iF.out];rfl),HB.out⟩
set_option maxRecDepth 100000 in
theorem yO (f:Nat→En) (aL aJ:Option Addr) (cL cJ:Nat) (L J:List Int) (w:World) (lL:L.length<1152921504606846976) (lJ:J.length<1152921504606846976) (hL:bM w aL L) (hJ:bM w aJ J):
  Calls prog 40 #[.agg (aU f),.agg #[.slice aL L.length cL,.slice aJ J.length cJ]] w fun e w'=>e=.returned (.int .i64 (ft f L J))∧Below w.heap.size w w':=by
 have hF2:=FS.new w f aL aJ L.length J.length cL cJ;go_enter func40,ntmps40;go_upto_region 1 with (fail)
 generalize (w.alloc (.cells (aU f) 37)).alloc (.cells #[.slice aL L.length cL,.slice aJ J.length cJ] 43)=w2 at *;refine wp_region_lit ?_;refine iV hF2.ro rfl _ rfl rfl ?_;have dH:=fy f w2;go_wp2_with fail
 refine dH.mono ?_;rintro r w3 ⟨rfl,hb3⟩;have UG:=hF2.later hb3;clear dH hb3 hF2
 cases dH:lW f with
 | false=>
  rw [qX dH];go_wp2_with fail
  go_ret;exact ⟨aj (by rw [I2 L J dH]),UG.aK⟩
 | true=>
  rw [qW dH];go_upto_region 4 with (fail)
  rw [Xo];have hM:w.heap.size+1<w3.heap.size:=(Array.getElem?_eq_some_iff.1 UG.bt).1;have hb4:Below w3.heap.size w3 (w3.alloc (.cells (xC []) 183)):=(Below.refl _ w3).alloc (Nat.le_refl _) _;have Dr:=dN.new w3 183 [];have Y7:=UG.later hb4;generalize w3.alloc (.cells (xC []) 183)=w4 at *;generalize w3.heap.size=M at *;obtain ⟨cl,cj⟩:=Y7.cells;have R2:Hid (FS w w4 f aL aJ L.length J.length cL cJ):=Y7;have JS:Hid (dN w4 M 183 []):=Dr;clear hb4 UG Y7 Dr;obtain ⟨c,hc⟩:∃c,aU f=c:=⟨_,rfl⟩;rw [hc];clear hc;go_wp2_with fail
  go_loopw [18] (fun i wx=>∃k:Nat,k≤L.length∧i=.int .i64 (k:Int)∧FS w wx f aL aJ L.length J.length cL cJ∧dN wx M 183 ([]++L.take k)∧gg f true [] L=gg f true ([]++L.take k) (L.drop k)) (fun i _=>L.length - (intOf i).toNat)
  case atStart=>exact ⟨0,by omega,rfl,R2.out,by simpa using JS.out,by simp⟩
  case round=>
   obtain ⟨k,hk,rfl,IU,F8,heq⟩:=hrel;have HF:Hid (FS w wr f aL aJ L.length J.length cL cJ):=IU;have HN:Hid (dN wr M 183 ([]++L.take k)):=F8;have HQ:Hid (gg f true [] L=gg f true ([]++L.take k) (L.drop k)):=heq;clear IU F8 heq R2 JS;by_cases ki:k<L.length
   ·have i1:(0:Int)≤(k:Int):=by omega
    have i2:(k:Int)<(L.length:Int):=by omega
    obtain ⟨b,o,oy,hcell⟩:=(hL.later HF.out.aK) k ki;have HS:Hid (gg f true [] L=if er f true ([]++L.take k) (L.getD k 0)=0 then gg f true ([]++L.take (k+1)) (L.drop (k+1)) else er f true ([]++L.take k) (L.getD k 0)):=by rw [←uO f true [] L ki];exact HQ.out
    have HT:Hid (L.take (k+1)=L.take k++[L.getD k 0]):=jg ki;obtain ⟨x,hx⟩:∃x,L.getD k 0=x:=⟨_,rfl⟩;rw [hx] at hcell HS HT;obtain ⟨pr,F9⟩:∃pr,[]++L.take k=pr:=⟨_,rfl⟩;rw [F9] at HS HN;have Bz:Hid ([]++L.take k=pr):=F9;clear hx F9 HQ;subst oy;go_upto_region 7 with (fail)
    refine wp_region_lit ?_;refine iV HF.out.ro rfl _ rfl rfl ?_;refine aaW HN.out rfl _ rfl rfl ?_;have YJ:=vV f pr x true wr;obtain ⟨E,hE⟩:∃E,er f true pr x=E:=⟨_,rfl⟩;rw [hE] at YJ;have HE:Hid (er f true pr x=E):=hE;clear hE;go_wp2_with fail
    refine YJ.mono ?_;rintro r w6 ⟨rfl,dS⟩;have R3:Hid (FS w w6 f (some ⟨b,o,none⟩) aJ L.length J.length cL cJ):=HF.out.later dS;have RQ:Hid (dN w6 M 183 pr):=HN.out.later dS;clear YJ dS;by_cases jU:E=0
    ·subst jU;have hw:mv x=true:=Qy HE.out;obtain ⟨xn,rfl,Pm⟩:=nU hw;have k1:(xn:Int)<256:=by omega
     have hfz:=ax RQ.out xn;have hce:=RQ.out.cell xn Pm;have HF7:Hid (FS w (w6.setCell ⟨M,xn,none⟩ (.bool true)) f (some ⟨b,o,none⟩) aJ L.length J.length cL cJ):=R3.out.set hM xn _;have HN7:Hid (dN (w6.setCell ⟨M,xn,none⟩ (.bool true)) M 183 (pr++[(xn:Int)])):=RQ.out.set xn Pm;go_wp2_with fail
     go_roundw
     case rel=>
      refine ⟨k+1,by omega,by go_num,HF7.out,?_,?_⟩
      ·rw [HT.out,←List.append_assoc,Bz.out];exact HN7.out
      ·rw [HS.out,HE.out];rfl
     case measure=>simp [intOf];omega
    ·have UH:(E==0)=false:=by simp [jU]
     go_wp2_with fail
     go_ret;exact ⟨aj (by rw [uM J dH (by rw [HS.out,HE.out,if_neg jU];exact jU),HS.out,HE.out,if_neg jU]),R3.out.aK⟩
   ·obtain rfl:k=L.length:=by omega
    have IY:decide ((L.length:Int)<(L.length:Int))=false:=by simp
    have HZ:Hid (gg f true [] L=0):=by show gg f true [] L=0;rw [HQ.out];exact A3 f true [] L
    have R2:Hid (FS w wr f aL aJ L.length J.length cL cJ):=HF.out;have JS:Hid (dN wr M 183 L):=by have h:=HN.out;rw [List.take_length,List.nil_append] at h;exact h
    obtain ⟨cl,cj⟩:=HF.out.cells;clear HF HN HQ hk ki;go_wp2_with fail
    go_loopw [35] (fun i wx=>∃k:Nat,k≤J.length∧i=.int .i64 (k:Int)∧FS w wx f aL aJ L.length J.length cL cJ∧dN wx M 183 (L++J.take k)∧gg f false L J=gg f false (L++J.take k) (J.drop k)) (fun i _=>J.length - (intOf i).toNat)
    case atStart=>exact ⟨0,by omega,rfl,R2.out,by simpa using JS.out,by simp⟩
    case round=>
     obtain ⟨k,hk,rfl,IU,F8,heq⟩:=hrel;have HF:Hid (FS w wr f aL aJ L.length J.length cL cJ):=IU;have HN:Hid (dN wr M 183 (L++J.take k)):=F8;have HQ:Hid (gg f false L J=gg f false (L++J.take k) (J.drop k)):=heq;clear IU F8 heq R2 JS;by_cases ki:k<J.length
     ·have i1:(0:Int)≤(k:Int):=by omega
      have i2:(k:Int)<(J.length:Int):=by omega
      obtain ⟨b,o,oy,hcell⟩:=(hJ.later HF.out.aK) k ki;have HS:Hid (gg f false L J=if er f false (L++J.take k) (J.getD k 0)=0 then gg f false (L++J.take (k+1)) (J.drop (k+1)) else er f false (L++J.take k) (J.getD k 0)):=by rw [←uO f false L J ki];exact HQ.out
      have HT:Hid (J.take (k+1)=J.take k++[J.getD k 0]):=jg ki;obtain ⟨x,hx⟩:∃x,J.getD k 0=x:=⟨_,rfl⟩;rw [hx] at hcell HS HT;obtain ⟨pr,F9⟩:∃pr,L++J.take k=pr:=⟨_,rfl⟩;rw [F9] at HS HN;have Bz:Hid (L++J.take k=pr):=F9;clear hx F9 HQ;subst oy;go_upto_region 15 with (fail)
      refine wp_region_lit ?_;refine iV HF.out.ro rfl _ rfl rfl ?_;refine aaW HN.out rfl _ rfl rfl ?_;have YJ:=vV f pr x false wr;obtain ⟨E,hE⟩:∃E,er f false pr x=E:=⟨_,rfl⟩;rw [hE] at YJ;have HE:Hid (er f false pr x=E):=hE;clear hE;go_wp2_with fail
      refine YJ.mono ?_;rintro r w6 ⟨rfl,dS⟩;have R3:Hid (FS w w6 f aL (some ⟨b,o,none⟩) L.length J.length cL cJ):=HF.out.later dS;have RQ:Hid (dN w6 M 183 pr):=HN.out.later dS;clear YJ dS;by_cases jU:E=0
      ·subst jU;have hw:mv x=true:=Qy HE.out;obtain ⟨xn,rfl,Pm⟩:=nU hw;have k1:(xn:Int)<256:=by omega
       have hfz:=ax RQ.out xn;have hce:=RQ.out.cell xn Pm;have HF7:Hid (FS w (w6.setCell ⟨M,xn,none⟩ (.bool true)) f aL (some ⟨b,o,none⟩) L.length J.length cL cJ):=R3.out.set hM xn _;have HN7:Hid (dN (w6.setCell ⟨M,xn,none⟩ (.bool true)) M 183 (pr++[(xn:Int)])):=RQ.out.set xn Pm;go_wp2_with fail
       go_roundw
       case rel=>
        refine ⟨k+1,by omega,by go_num,HF7.out,?_,?_⟩
        ·rw [HT.out,←List.append_assoc,Bz.out];exact HN7.out
        ·rw [HS.out,HE.out];rfl
       case measure=>simp [intOf];omega
      ·have UH:(E==0)=false:=by simp [jU]
       go_wp2_with fail
       go_ret;exact ⟨aj (by rw [uN dH HZ.out (by rw [HS.out,HE.out,if_neg jU];exact jU),HS.out,HE.out,if_neg jU]),R3.out.aK⟩
     ·obtain rfl:k=J.length:=by omega
      have IY:decide ((J.length:Int)<(J.length:Int))=false:=by simp
      have HZ2:Hid (gg f false L J=0):=by show gg f false L J=0;rw [HQ.out];exact A3 f false L J
      have Hd:Hid (cnt f≤64):=sI f;have jo:=Fh f;have bQ:=pA (tk f) (fF f);obtain ⟨C,hC⟩:∃C,cnt f=C:=⟨_,rfl⟩;rw [show (bl (tk f)).length=C from hC] at bQ;have HC:Hid (cnt f=C):=hC;rw [hC] at Hd;clear hC;generalize tk f=q at *;go_upto_region 20 with (fail)
      obtain ⟨NL,oL⟩:∃NL,L.length=NL:=⟨_,rfl⟩;obtain ⟨NJ,pK⟩:∃NJ,J.length=NJ:=⟨_,rfl⟩;have HFq:Hid (FS w wr f aL aJ NL NJ cL cJ):=by have h:=HF.out;rw [oL,pK] at h;exact h
      have pZ:Hid (L.length=NL):=oL;have lu:Hid (J.length=NJ):=pK;rw [oL] at lL;rw [pK] at lJ;rw [oL,pK];clear oL pK hk ki HF HN HQ IY;have adL:IntKind.i64.wrap (64 - (C:Int))=64 - (C:Int):=bC _ (by have:=Hd.out;omega) (by omega);have hwr:IntKind.i64.wrap (64 - (C:Int)+(NL:Int))=64 - (C:Int)+(NL:Int):=bC _ (by have:=Hd.out;omega) (by omega);have dm:FS w wr.drew f aL aJ NL NJ cL cJ:=HFq.out.later ⟨rfl,rfl,rfl,Nat.le_refl _,fun _ _=>rfl⟩;refine wp_region_held_drew (S:=fun W=>FS w W f aL aJ NL NJ cL cJ) (by kernel_rfl) dm (fun hHeld=>?_);refine aH 0 (.pointer (some ⟨w.heap.size+1,1,none⟩)) rfl ?_;go_frame;refine dG 1 (.slice aJ NJ cJ) rfl (fun w hSw=>by obtain ⟨cl,cj⟩:=FS.cells hSw;clear hSw;go_simp) ?_;go_frame;refine aH 2 (.int .i64 (NJ:Int)) rfl ?_;go_frame;refine dG 3 (.agg (aU f)) rfl (fun w hSw=>y8 (FS.ro hSw) rfl rfl) ?_;go_frame;refine aH 7 (.pointer (some ⟨w.heap.size+1,0,none⟩)) rfl ?_;go_frame;refine dG 8 (.slice aL NL cL) rfl (fun w hSw=>by obtain ⟨cl,cj⟩:=FS.cells hSw;clear hSw;go_simp) ?_;go_frame;refine aH 9 (.int .i64 (NL:Int)) rfl ?_;go_frame;refine dh 4 rfl fun K hK=>?_;go_simp
      refine (jo _).mono ?_;rintro e w' ⟨rfl,iK⟩;go_wp2_with fail
      refine hK.out _ _ (FS.later hHeld iK) (fun aD=>?_);clear iK hHeld;clear hK K;try go_frame
      refine dh 5 rfl fun K hK=>?_;go_simp
      refine (bQ _).mono ?_;rintro e w8 ⟨rfl,AQ⟩;go_wp2_with fail
      refine hK.out _ _ (FS.later aD AQ) (fun aN=>?_);clear aD AQ;clear hK K;try go_frame
      refine aH 6 (.int .i64 (64 - (C:Int))) rfl ?_;go_frame;refine aH 10 (.int .i64 (64 - (C:Int)+(NL:Int))) rfl ?_;go_frame;refine aH 11 (.bool (decide (64 - (C:Int)+(NL:Int)<(NJ:Int)))) rfl ?_;go_frame;refine wpAnyH_done (by kernel_rfl) ?_ _;by_cases YO:64 - (C:Int)+(NL:Int)<(NJ:Int)
      ·have hd:decide (64 - (C:Int)+(NL:Int)<(NJ:Int))=true:=by simp [YO]
       rw [hd];go_wp2_with fail
       go_ret;exact ⟨aj (by rw [qN dH HZ.out HZ2.out,if_pos (by rw [pZ.out,lu.out,HC.out];have:=Hd.out;omega)]),aN.aK⟩
      ·have hd:decide (64 - (C:Int)+(NL:Int)<(NJ:Int))=false:=by simp;omega
       rw [hd];go_wp2_with fail
       go_ret;exact ⟨aj (by rw [qN dH HZ.out HZ2.out,if_neg (by rw [pZ.out,lu.out,HC.out];have:=Hd.out;omega)]),aN.aK⟩
set_option maxRecDepth 4000
/- Seats (a person, a slot) as cells. -/
variable {x:Int} {f:Nat→En}
def ps (l:List (Int×Int)):List Value:=l.flatMap fun p=>[.int .i64 p.1,.int .i64 p.2]
theorem od (l:List (Int×Int)) (p:Int×Int):ps (l++[p])=ps l++[.int .i64 p.1,.int .i64 p.2]:=by simp [ps]
@[simp] theorem aak (l:List (Int×Int)):(ps l).length=l.length * 2:=by
 induction l with
 | nil=>rfl
 | cons a l ih=>
  have:ps (a::l)=.int .i64 a.1:: .int .i64 a.2::ps l:=rfl;rw [this];simp [ih];omega
/- One is put out. -/
def BQ (g:Nat→En) (x:Int):Nat→En:=if on g x then upd g (fC g x).toNat zE else g
def evs (f:Nat→En) (L:List Int):Nat→En:=L.foldl BQ f
theorem wY (f:Nat→En) (L:List Int) (x:Int):evs f (L++[x])=BQ (evs f L) x:=by simp [evs]
theorem Gz {g:Nat→En} {j:Nat} (h:fC g x=(j:Int)):BQ g x=upd g j zE:=by
 have:on g x=true:=by unfold on;rw [h];simp
 unfold BQ;rw [this,if_pos rfl,h,Int.toNat_natCast]
def eA:(Nat→En)→List Int→List (Int×Int)
 | _,[]=>[]
 | f,x::r=>(x,fC f x)::eA (BQ f x) r
theorem wZ:∀(f:Nat→En) (L:List Int) (x:Int),eA f (L++[x])=eA f L++[(x,fC (evs f L) x)]
 | f,[],x=>rfl
 | f,y::r,x=>by
  rw [List.cons_append,eA,wZ (BQ f y) r x,eA];rfl
@[simp] theorem ew:∀(f:Nat→En) (L:List Int),(eA f L).length=L.length
 | f,[]=>rfl
 | f,y::r=>by rw [eA,List.length_cons,ew,List.length_cons]
theorem Qt (h:on f x=true):∃j:Nat,fC f x=(j:Int)∧j<64:=by
 rcases sG f x with e | ⟨j,e,h1,_⟩
 ·unfold on at h;rw [e] at h;simp at h
 ·exact ⟨j,e,h1⟩
/- Some are let in, at the slots T. -/
def nN (f:Nat→En) (T:List Nat) (J:List Int) (sc bs:Int):Nat→(Nat→En)
 | 0=>f
 | k+1=>upd (nN f T J sc bs k) (T.getD k 0) ⟨J.getD k 0,bs+(k:Int),sc⟩
def nO (T:List Nat) (J:List Int):Nat→List (Int×Int)
 | 0=>[]
 | k+1=>nO T J k++[(J.getD k 0,((T.getD k 0:Nat):Int))]
@[simp] theorem bX (T:List Nat) (J:List Int):∀k,(nO T J k).length=k
 | 0=>rfl
 | k+1=>by rw [nO,List.length_append,bX];rfl
/- Are the names free? -/
def um (f:Nat→En) (bs:Int) (n:Nat):Nat→Bool
 | 0=>true
 | k+1=>um f bs n k&& !(decide (bs≤(f k).aB)&&decide ((f k).aB<bs+(n:Int)))
def xP (f:Nat→En) (bs:Int) (n:Nat):Bool:=decide (n=0)||(decide (1≤bs)&&decide (bs≤32768 - (n:Int))&&um f bs n 64)
theorem Qs {f:Nat→En} {bs:Int} {n:Nat}:∀{k m:Nat},k≤m→um f bs n m=true→um f bs n k=true
 | k,0,h,e=>by obtain rfl:k=0:=(by omega);exact e
 | k,m+1,h,e=>by
  rcases Nat.lt_or_ge k (m+1) with g | g
  ·rw [um,Bool.and_eq_true] at e;exact Qs (by omega) e.1
  ·obtain rfl:k=m+1:=by omega
   exact e
theorem A4 {bs:Int} {n k:Nat} (hk:k<64) (h:(decide (bs≤(f k).aB)&&decide ((f k).aB<bs+(n:Int)))=true):um f bs n 64=false:=by
 cases e:um f bs n 64 with
 | false=>rfl
 | true=>
  have:=Qs (show k+1≤64 by omega) e;rw [um,h] at this;simp at this
/- The error of a move; the roster behind it, the seats. -/
def mo (f:Nat→En) (L J:List Int) (sc bs:Int):Int:=
 if ft f L J=0 then (if w_ sc then (if xP f bs J.length then 0 else 3) else 19) else ft f L J
def fU (f:Nat→En) (L J:List Int):List Nat:=(bl (nt (tk (evs f L)))).take J.length
def pX (f:Nat→En) (L J:List Int) (sc bs:Int):Nat→En:=if mo f L J sc bs=0 then nN (evs f L) (fU f L J) J sc bs J.length else fun _=>zE
def xD (f:Nat→En) (L J:List Int) (sc bs:Int):List (Int×Int):=if mo f L J sc bs=0 then eA f L else []
def ud (f:Nat→En) (L J:List Int) (sc bs:Int):List (Int×Int):=if mo f L J sc bs=0 then nO (fU f L J) J J.length else []
open Go.RowKit Go.Maps Go.Shelf
/- Slots as integers. -/
def zs (l:List Nat):List Int:=l.map fun k=>((k:Nat):Int)
@[simp] theorem aaj (l:List Nat):(zs l).length=l.length:=by simp [zs]
theorem tO {n0:Nat} {w W W':World} {row:Option Nat} (h:Below n0 w W) (hg:W.grownBy W' row) (hn:n0≤W.heap.size) (hr:∀j,row=some j→n0≤j):Below n0 w W':=
 h.trans ⟨hg.os,hg.tape,hg.output,hg.size,fun k hk=>hg.block k (by omega) (fun e=>by have:=hr k e.symm;omega)⟩
theorem Gq (w:World) (row:Option Nat):w.grownBy w row:=⟨rfl,rfl,rfl,Nat.le_refl _,fun _ _ _=>rfl⟩
open Go.RowKit Go.Maps
variable {W W' w:World} {B b n sz:Nat} {e:TypeId} {v:Value} {xs:List Value}
set_option maxRecDepth 100000 in
theorem nM (f:Nat→En) (bs:Int) (n:Nat) (hn:n<1152921504606846976) (w:World):
  Calls prog 140 #[.agg (aU f),.int .i64 bs,.int .i64 (n:Int)] w fun e w'=>e=.returned (.bool (xP f bs n))∧Below w.heap.size w w':=by
 have BX:Hid (xP f bs n=(decide (n=0)||(decide (1≤bs)&&decide (bs≤32768 - (n:Int))&&um f bs n 64))):=rfl;have hR:=bg.new w f;have cA:=dr w f;have Lf:IntKind.i64.wrap (32768 - (n:Int))=32768 - (n:Int):=bC _ (by omega) (by omega);go_enter func140,ntmps140;go_upto_region 1 with (fail)
 generalize w.alloc (.cells (aU f) 37)=w1 at *;obtain ⟨c,hc⟩:∃c,aU f=c:=⟨_,rfl⟩;by_cases gZ:n=0
 ·subst gZ;rw [hc];go_wp2_with fail
  go_ret;exact ⟨ae (by rw [BX.out];rfl),cA⟩
 ·have h0:¬((n:Int)=0):=by omega
  have WI:((n:Int)==0)=false:=by simp;omega
  have HD:Hid (decide (n=0)=false):=decide_eq_false gZ;by_cases h1:bs<1
  ·have BZ:Hid (decide (1≤bs)=false):=decide_eq_false (by omega);rw [hc];go_wp2_with fail
   go_ret;exact ⟨ae (by rw [BX.out,HD.out,BZ.out];rfl),cA⟩
  ·have BZ:Hid (decide (1≤bs)=true):=decide_eq_true (by omega);by_cases h2:32768 - (n:Int)<bs
   ·have xx:Hid (decide (bs≤32768 - (n:Int))=false):=decide_eq_false (by omega);rw [hc];go_wp2_with fail
    go_ret;exact ⟨ae (by rw [BX.out,HD.out,BZ.out,xx.out];rfl),cA⟩
   ·have xx:Hid (decide (bs≤32768 - (n:Int))=true):=decide_eq_true (by omega);have Ug:IntKind.i64.wrap (bs+(n:Int))=bs+(n:Int):=bC _ (by omega) (by omega);go_upto_region 5 with (fail)
    refine wp_region_lit ?_;refine iV hR rfl _ rfl rfl ?_;rw [hc];go_wp2_with fail
    go_loopw [20] (fun i wx=>∃k:Nat,k≤64∧i=.int .i64 (k:Int)∧Below w1.heap.size w1 wx∧um f bs n k=true) (fun i _=>64 - (intOf i).toNat)
    case atStart=>exact ⟨0,by omega,rfl,Below.refl _ _,rfl⟩
    case round=>
     obtain ⟨k,hk,rfl,hb,hf⟩:=hrel;have HB:Hid (Below w.heap.size w wr):=cA.trans (hb.mono cA.size);have fE:Hid (Below w1.heap.size w1 wr):=hb;have HF:Hid (um f bs n k=true):=hf;clear hb hf;by_cases dA:k<64
     ·have k8:(k:Int)<64:=by omega
      have hi:=Db f k dA;rw [hc] at hi;have ui:=fo wr (f k);have HS:Hid (um f bs n (k+1)=(um f bs n k&& !(decide (bs≤(f k).aB)&&decide ((f k).aB<bs+(n:Int))))):=rfl;have VC:Hid ((decide (bs≤(f k).aB)&&decide ((f k).aB<bs+(n:Int)))=true→um f bs n 64=false):=A4 dA;have rC:Hid (Below wr.heap.size wr (wr.alloc (.cells #[.int .i64 (f k).who,.int .i64 (f k).aB,.int .i64 (f k).dx] 35))):=ui;generalize f k=e at *;clear ui;by_cases g1:bs≤e.aB
      ·by_cases g2:e.aB<bs+(n:Int)
       ·go_wp2_with fail
        go_ret;exact ⟨ae (by rw [BX.out,HD.out,BZ.out,xx.out,VC.out (by simp [g1,g2])];rfl),HB.out.trans (rC.out.mono HB.out.size)⟩
       ·go_wp2_with fail
        go_roundw
        case rel=>exact ⟨k+1,by omega,by go_num,fE.out.trans (rC.out.mono fE.out.size),by rw [HS.out,HF.out];simp;omega⟩
        case measure=>simp [intOf];omega
      ·go_wp2_with fail
       go_roundw
       case rel=>exact ⟨k+1,by omega,by go_num,fE.out.trans (rC.out.mono fE.out.size),by rw [HS.out,HF.out];simp;omega⟩
       case measure=>simp [intOf];omega
     ·obtain rfl:k=64:=by omega
      go_wp2_with fail
      go_ret;exact ⟨ae (by rw [BX.out,HD.out,BZ.out,xx.out,HF.out];rfl),HB.out⟩
/- Rosters that are written to. -/
theorem bg.E7 {f:Nat→En} (h:bg w B f) (k:Nat) (hk:k<64) (a b c:Int):
  bg (((w.setCell ⟨B,k * 3,none⟩ (.int .i64 a)).setCell ⟨B,k * 3+1,none⟩ (.int .i64 b)).setCell ⟨B,k * 3+2,none⟩ (.int .i64 c)) B (upd f k ⟨a,b,c⟩):=by
 have h3:=aO (aO (aO h (k * 3) (.int .i64 a)) (k * 3+1) (.int .i64 b)) (k * 3+2) (.int .i64 c);rw [Tx f k ⟨a,b,c⟩ hk] at h3;exact h3
theorem o9 (h:Below n w W) (hB:n≤B) (i j k:Nat) (a b c:Value):Below n w (((W.setCell ⟨B,i,none⟩ a).setCell ⟨B,j,none⟩ b).setCell ⟨B,k,none⟩ c):=
 ((h.setCell (p:=⟨B,i,none⟩) hB a).setCell (p:=⟨B,j,none⟩) hB b).setCell (p:=⟨B,k,none⟩) hB c
theorem ee {C:Nat} (h:C≠B) (i j k:Nat) (a b c:Value):(((w.setCell ⟨B,i,none⟩ a).setCell ⟨B,j,none⟩ b).setCell ⟨B,k,none⟩ c).heap[C]? =w.heap[C]? :=by
 rw [au h,au h,au h]
theorem aY (h:W.ownsRow b e sz v n xs) (hk:∀g,b≤g→g<W.heap.size→W'.heap[g]? =W.heap[g]?):W'.ownsRow b e sz v n xs:=by
 obtain ⟨h1,h2⟩:=h;refine ⟨h1,?_⟩;rcases h2 with h2 | ⟨g,cap,cur,rfl,h3,h4,r⟩
 ·exact .inl h2
 ·exact .inr ⟨g,cap,cur,rfl,h3,(hk g h3 (Array.getElem?_eq_some_iff.1 h4).1).trans h4,r⟩
theorem ar (h:W.ownsRow b e sz v n xs) (hb:Below W.heap.size W W'):W'.ownsRow b e sz v n xs:=aY h fun g _ hg=>hb.block g hg
theorem aV {b':Nat} (h:W.ownsRow b e sz v n xs) (hb:b'≤b):W.ownsRow b' e sz v n xs:=by
 obtain ⟨h1,h2⟩:=h;refine ⟨h1,?_⟩;rcases h2 with h2 | ⟨g,cap,cur,rfl,h3,r⟩
 ·exact .inl h2
 ·exact .inr ⟨g,cap,cur,rfl,by omega,r⟩
theorem ah (h:W.ownsRow b e sz v n xs):∃a cap,v=.slice a n cap:=by
 rcases h.2 with ⟨rfl,rfl⟩ | ⟨g,cap,cur,rfl,_⟩
 ·exact ⟨none,0,rfl⟩
 ·exact ⟨_,cap,rfl⟩
theorem Da:(prog.info? 113).map (fun i=>(i.zero,i.size,i.bytes))=some (some (.agg #[.int .i64 0,.int .i64 0]),2,16):=by kernel_rfl
theorem cR:∃i,prog.info? 113=some i∧i.zero=some (.agg #[.int .i64 0,.int .i64 0])∧i.size=2∧i.bytes=16:=by
 have h:=Da
 cases hq:prog.info? 113 with
 | none=>rw [hq] at h;cases h
 | some i=>
  rw [hq] at h;simp at h;exact ⟨i,rfl,h.1,h.2.1,h.2.2⟩
theorem cell_two_new (w:World) (x y:Value) (t:TypeId):∀j u,[x,y][j]? =some u→(w.alloc (.cells #[x,y] t)).cell? ((⟨w.heap.size,0,none⟩:Addr).add j)=some u:=by
 intro j u hu
 match j with
 | 0=>
  rw [show (⟨w.heap.size,0,none⟩:Addr).add 0=⟨w.heap.size,0,none⟩ from rfl,cell_of_row _ _ 0 _ _ _ (heap_alloc_last w _)];exact hu
 | 1=>
  rw [show (⟨w.heap.size,0,none⟩:Addr).add 1=⟨w.heap.size,1,none⟩ from rfl,cell_of_row _ _ 1 _ _ _ (heap_alloc_last w _)];exact hu
 | j+2=>simp at hu
theorem rD:zeroCells37=aU fun _=>zE:=by kernel_rfl
theorem sW {fn:Func} {p t:Tmp} (hf:fn.results=#[.cell p 37,.tmp t]) (tmps:Array Value) (W:World) (B:Nat) (f:Nat→En) (hp:tmps[p]? =some (.pointer (some ⟨B,0,none⟩))) (hb:bg W B f):
  (results fn tmps).run prog W=.ok (.tuple #[.agg (aU f),tmps.getD t undef]) W:=by
 have h:=run_loadVar_row W B _ 37 _ _ _ hb underlying37 rfl (by rw [fg];exact sA);simp [results,hf,hp,asAddr,h]
/- What stands while a roster is written and seats are gathered. -/
variable {W w:World} {f g:Nat→En} {v:Value} {l:List (Int×Int)} {B:Nat}
structure EV (w W:World) (g:Nat→En) (v:Value) (l:List (Int×Int)):Prop where
 ro:bg W w.heap.size g
 ze:bg W (w.heap.size+1) (fun _=>zE)
 aK:Below w.heap.size w W
 row:W.ownsRow (w.heap.size+2) 113 2 v l.length (ps l)
theorem EV.size (h:EV w W g v l):w.heap.size+2≤W.heap.size:=h.ze.lt
theorem EV.later {w W W':World} {g:Nat→En} {v:Value} {l:List (Int×Int)} (h:EV w W g v l) (hb:Below W.heap.size W W'):EV w W' g v l:=
 ⟨h.ro.later hb,h.ze.later hb,h.aK.trans (hb.mono h.aK.size),ar h.row hb⟩
theorem b9 {b:Nat} {e:TypeId} {sz:Nat} {n:Nat} {xs:List Value} (h:W.ownsRow b e sz v n xs) {k:Nat} (hk:k<b):some k≠v.ownBlock:=by
 intro he;rcases h.2 with ⟨rfl,_⟩ | ⟨g,cap,cur,rfl,h3,_⟩
 ·simp [Value.ownBlock] at he
 ·simp [Value.ownBlock] at he;omega
theorem EV.app {W1:World} {v':Value} {o:Obj} {p:Int×Int} (h:EV w W g v l) (hown:W1.ownsRow (w.heap.size+2) 113 2 v' (l.length+1) (ps l++[.int .i64 p.1,.int .i64 p.2])) (hg:(W.alloc o).grownBy W1 v.ownBlock):EV w W1 g v' (l++[p]):=by
 have hs:=h.size
 have blk:∀k,k<w.heap.size+2→W1.heap[k]? =W.heap[k]? :=fun k hk=>by
  rw [hg.block k (by simp;omega) (b9 h.row hk)];exact ((Below.refl _ W).alloc (Nat.le_refl _) o).block k (by omega)
 refine ⟨(blk _ (by omega)).trans h.ro,(blk _ (by omega)).trans h.ze,?_,?_⟩
 ·have b1:=h.aK.alloc h.aK.size o
  exact tO b1 hg (by have:=h.aK.size;simp;omega) fun j hj=>by
   rcases Nat.lt_or_ge j (w.heap.size+2) with hlt | BN
   ·exact absurd hj.symm (b9 h.row hlt)
   ·omega
 ·rw [od,List.length_append];exact hown
theorem EV.set (h:EV w W g v l) (k:Nat) (hk:k<64) (a b c:Int):
  EV w (((W.setCell ⟨w.heap.size,k * 3,none⟩ (.int .i64 a)).setCell ⟨w.heap.size,k * 3+1,none⟩ (.int .i64 b)).setCell ⟨w.heap.size,k * 3+2,none⟩ (.int .i64 c)) (upd g k ⟨a,b,c⟩) v l:=
 ⟨h.ro.E7 k hk a b c,(ee (by omega) _ _ _ _ _ _).trans h.ze,o9 h.aK (Nat.le_refl _) _ _ _ _ _ _,aY h.row fun j hj _=>ee (by omega) _ _ _ _ _ _⟩
theorem EV.new (w:World) (f:Nat→En):EV w ((w.alloc (.cells (aU f) 37)).alloc (.cells (aU fun _=>zE) 37)) f (.slice none 0 0) []:=by
 have b2:=dr (w.alloc (.cells (aU f) 37)) (fun _=>zE);have h2:=bg.new (w.alloc (.cells (aU f) 37)) (fun _=>zE);rw [World.size_alloc] at h2;exact ⟨(bg.new w f).later b2,h2,(dr w f).trans (b2.mono (by simp)),World.ownsRow_nil _ _ _ _⟩
theorem ou {ops:Array Oper} {rest:List Oper} {o:Oper} {a:Act} {Q:Exit→Act→World→Prop} (h:bg w B f) (hgd:o.guard=none) (x y:Operand) (ho:o.op=.store 37 x y)
  (hx:a.eval x=.pointer (some ⟨B,0,none⟩)) (hy:a.eval y=.agg (aU g)) (k:wpList prog ops Q rest (a.put o.dst undef) (w.setRow B (aU g))):wpList prog ops Q (o::rest) a w:=
 wpList_store_row hgd 37 x y ho B (aU g) hx hy 37 (aU f) h (by rw [fg];exact sA) (by rw [fg,fg]) (H6 g) k
theorem bg.row (h:bg w B f) (g:Nat→En):bg (w.setRow B (aU g)) B g:=ai h _
theorem aq {C:Nat} (h:C≠B) (cs:Array Value):(w.setRow B cs).heap[C]? =w.heap[C]? :=by
 simp only [World.setRow,Array.getElem?_modify];rw [if_neg (fun e=>h e.symm)]
set_option maxRecDepth 100000 in
theorem LC (f:Nat→En) (a:Option Addr) (c:Nat) (L:List Int) (w:World) (lL:L.length≤4096) (hL:bM w a L) (iF:∀k,k<L.length→on (evs f (L.take k)) (L.getD k 0)=true):
  Calls prog 141 #[.agg (aU f),.slice a L.length c] w fun e w'=>(∃v,e=.returned (.tuple #[.agg (aU (evs f L)),v])∧w'.ownsRow (w.heap.size+2) 113 2 v L.length (ps (eA f L)))∧Below w.heap.size w w':=by
 have jU:=EV.new w f;obtain ⟨i0,hi,hz0,hz1,hz2⟩:=cR;go_enter func141,ntmps141;go_upto_region 2 with (fail)
 rw [rD];generalize (w.alloc (.cells (aU f) 37)).alloc (.cells (aU fun _=>zE) 37)=w1 at *;have Ev:Hid (EV w w1 f (.slice none 0 0) []):=jU;clear jU;obtain ⟨cf,hc⟩:∃cf,aU f=cf:=⟨_,rfl⟩;rw [hc];clear hc;go_wp2_with fail
 go_loopw [6,12] (fun v i wx=>∃(k:Nat) (vl:Value),k≤L.length∧i=.int .i64 (k:Int)∧vl=v∧EV w wx (evs f (L.take k)) vl (eA f (L.take k))) (fun _ i _=>L.length - (intOf i).toNat)
 case atStart=>exact ⟨0,_,by omega,rfl,rfl,Ev.out⟩
 case round=>
  obtain ⟨k,vl,hk,rfl,rfl,ox⟩:=hrel;have HE:Hid (EV w wr (evs f (L.take k)) vl (eA f (L.take k))):=ox;clear ox Ev;by_cases ki:k<L.length
  ·have i1:(0:Int)≤(k:Int):=by omega
   have i2:(k:Int)<(L.length:Int):=by omega
   obtain ⟨b,o,oy,hcell⟩:=(hL.later HE.out.aK) k ki;have HT:Hid (L.take (k+1)=L.take k++[L.getD k 0]):=jg ki;have lS:=iF k ki;have hlen:(eA f (L.take k)).length=k:=by simp;omega
   obtain ⟨x,hx⟩:∃x,L.getD k 0=x:=⟨_,rfl⟩;rw [hx] at hcell HT lS;obtain ⟨g,hg⟩:∃g,evs f (L.take k)=g:=⟨_,rfl⟩;obtain ⟨l,hl⟩:∃l,eA f (L.take k)=l:=⟨_,rfl⟩;rw [hg,hl] at HE;rw [hg] at lS;rw [hl] at hlen;have HG:Hid (evs f (L.take k)=g):=hg;have HL:Hid (eA f (L.take k)=l):=hl;obtain ⟨j,hj,lT⟩:=Qt lS;have tG:=wX g x;rw [hj] at tG;have HJ:Hid (fC g x=(j:Int)):=hj;clear hx hg hl lS hj iF;subst oy;obtain ⟨a1,aS,rfl⟩:=ah HE.out.row;rw [hlen];have HLEN:Hid (l.length=k):=hlen;clear hlen;go_upto_region 5 with (fail)
   refine wp_region_lit ?_;refine iV HE.out.ro rfl _ rfl rfl ?_;have Di:=tG wr;obtain ⟨cg,hcg⟩:∃cg,aU g=cg:=⟨_,rfl⟩;rw [hcg] at Di ⊢;clear hcg tG;go_wp2_with fail
   refine Di.mono ?_;rintro r w2 ⟨rfl,hb2⟩;have u6:Hid (EV w w2 g (.slice a1 l.length aS) l):=HE.out.later hb2;clear Di hb2 HE;have hrow:w2.ownsRow (w.heap.size+2) 113 2 (.slice a1 k aS) k (ps l):=by have h:=u6.out.row;rw [HLEN.out] at h;exact h
   have hsz:=u6.out.size;go_upto_region 7 with (at_builtin;(refine wpList_append_own _ rfl _ _ 51 rfl (w.heap.size+2) 113 i0 (.agg #[.int .i64 0,.int .i64 0]) 2 16 underlying51 hi hz0 hz1 hz2 rfl (by decide) (.slice a1 k aS) k (ps l) rfl (hrow.alloc _) ⟨w2.heap.size,0,none⟩ 1 1 [.int .i64 x,.int .i64 (j:Int)] rfl rfl (cell_two_new _ _ _ _) (by simp [Value.oneCell']) (by unfold maxLen;omega) (by omega) (by simp;omega) ?_);intro v' w3 hown' hg3 _)
   have JX:Hid (EV w w3 g v' (l++[(x,(j:Int))])):=u6.out.app (by rw [HLEN.out];exact hown') (by rw [HLEN.out];exact hg3);clear hown' hg3 hrow hsz u6;have j1:(j:Int)<64:=by omega
   obtain ⟨c0,c1,c2⟩:=JX.out.ro.cells j lT;have f0:=ax JX.out.ro (j * 3);have f1:=ax JX.out.ro (j * 3+1);have f2:=ax JX.out.ro (j * 3+2);have Eu:Hid (EV w (((w3.setCell ⟨w.heap.size,j * 3,none⟩ (.int .i64 0)).setCell ⟨w.heap.size,j * 3+1,none⟩ (.int .i64 0)).setCell ⟨w.heap.size,j * 3+2,none⟩ (.int .i64 0)) (upd g j ⟨0,0,0⟩) v' (l++[(x,(j:Int))])):=JX.out.set j lT 0 0 0;go_wp2_with fail
   go_roundw
   case rel=>
    refine ⟨k+1,_,by omega,by go_num,rfl,?_⟩;have e1:evs f (L.take (k+1))=upd g j ⟨0,0,0⟩:=by rw [HT.out,wY,HG.out,Gz HJ.out];rfl
    have e2:eA f (L.take (k+1))=l++[(x,(j:Int))]:=by rw [HT.out,wZ,HG.out,HL.out,HJ.out]
    rw [e1,e2];exact Eu.out
   case measure=>simp [intOf];omega
  ·obtain rfl:k=L.length:=by omega
   have IY:decide ((L.length:Int)<(L.length:Int))=false:=by simp
   have sS:Hid (EV w wr (evs f L) vl (eA f L)):=by have h:=HE.out;rw [List.take_length] at h;exact h
   clear HE iF;go_upto_region 9 with (fail)
   refine wp_region_lit ?_;refine iV sS.out.ro rfl _ rfl rfl ?_;go_wp2_with (refine ou sS.out.ze rfl _ _ rfl rfl rfl ?_)
   refine bodyPost_ret (sW (p:=4) (t:=5) rfl _ _ (w.heap.size+1) (evs f L) rfl (sS.out.ze.row _)) rfl ?_;refine ⟨⟨vl,rfl,?_⟩,?_⟩
   ·have h:=sS.out.row;rw [ew] at h;exact aY h fun j hj _=>aq (by omega) _
   ·exact ag (by omega) sS.out.aK _
end Go.Proofs.YtanaapfobpgibaaGreatDoor.Rs
