/- RtE, RtG, joined. -/
import Derived.Test.YtanaapfobpgibaaGreatDoorJRtB
open Go.Proofs.Tryz
set_option maxHeartbeats 2000000
namespace Go.Proofs.YtanaapfobpgibaaGreatDoor.Rt
open Go.RowKit
set_option linter.unusedVariables false
set_option linter.unusedSimpArgs false
variable {w:World} {B:Nat} {f:Nat→Ky} {n:Int}
theorem ic:Value.agg #[Value.int .i64 0,Value.int .i64 0,Value.int .i64 0,Value.int .i64 0,Value.int .i64 0,Value.int .i64 0,Value.int .i64 0,Value.int .i64 0,Value.int .i64 0,Value.int .i64 0,Value.int .i64 0,Value.int .i64 0,Value.int .i64 0,Value.int .i64 0,Value.int .i64 0,Value.int .i64 0,Value.int .i64 0,Value.int .i64 0,Value.int .i64 0,Value.int .i64 0,Value.int .i64 0,Value.int .i64 0,Value.int .i64 0,Value.int .i64 0,Value.int .i64 0,Value.int .i64 0,Value.int .i64 0,Value.int .i64 0,Value.int .i64 0,Value.int .i64 0,Value.int .i64 0,Value.int .i64 0,Value.int .i64 0,Value.int .i64 0,Value.int .i64 0,Value.int .i64 0,Value.int .i64 0,Value.int .i64 0,Value.int .i64 0,Value.int .i64 0,Value.int .i64 0,Value.int .i64 0]=.agg (bF fun _=>zK):=by rw [u9]
theorem TY (h:bq w B f):(Instr.loadAt 33 (.pointer (some ⟨B,0,none⟩))).run prog w=.ok (.agg (bF f)) w:=by
 simp only [Instr.loadAt,Instr.sureAddr,Sem.run_bind,Sem.run_pure,Result.andThen];exact run_loadVar_row w B _ _ _ _ _ h underlying33 rfl (by rw [bH];exact tu)
theorem CY (h:bq w B f) {a:Act} {o:Oper} {x:Operand} (ho:o.op=.load 33 x) (hx:a.eval x=.pointer (some ⟨B,0,none⟩)):(execOp a.eval o).run prog w=.ok (.value (.agg (bF f))) w:=by
 have:=TY h;simp [execOp,ho,hx,this,Sem.run_bind,Result.andThen]
theorem bZ {fn:Func} {p t u:Tmp} (hf:fn.results=#[.cell p 33,.tmp t,.tmp u]) (tmps:Array Value) (W:World) (B:Nat) (f:Nat→Ky) (hp:tmps[p]? =some (.pointer (some ⟨B,0,none⟩))) (hb:bq W B f):
  (results fn tmps).run prog W=.ok (.tuple #[.agg (bF f),tmps.getD t undef,tmps.getD u undef]) W:=by
 have h:=run_loadVar_row W B _ 33 _ _ _ hb underlying33 rfl (by rw [bH];exact tu);simp [results,hf,hp,asAddr,h]
/- What stands while Turn goes. -/
structure TS (w W:World) (f:Nat→Ky):Prop where
 ks:bq W w.heap.size f
 ze:bq W (w.heap.size+1) (fun _=>zK)
 aK:Below w.heap.size w W
theorem TS.later {w W W':World} {f:Nat→Ky} (h:TS w W f) (hb:Below W.heap.size W W'):TS w W' f:=⟨h.ks.later hb,h.ze.later hb,h.aK.trans (hb.mono h.aK.size)⟩
theorem TS.new (w:World) (f:Nat→Ky):TS w ((w.alloc (.cells (bF f) 33)).alloc (.cells (bF fun _=>zK) 33)) f:=by
 have b2:=jK (w.alloc (.cells (bF f) 33)) (fun _=>zK);have h2:=bq.new (w.alloc (.cells (bF f) 33)) (fun _=>zK);rw [World.size_alloc] at h2;exact ⟨(bq.new w f).later b2,h2,(jK w f).trans (b2.mono (by simp))⟩
structure TL (w W:World) (f:Nat→Ky) (B:Nat) (g:Nat→Ky):Prop where
 ts:TS w W f
 nx:bq W B g
 far:w.heap.size+2≤B
theorem TL.later {w W W':World} {f g:Nat→Ky} {B:Nat} (h:TL w W f B g) (hb:Below W.heap.size W W'):TL w W' f B g:=⟨h.ts.later hb,h.nx.later hb,h.far⟩
theorem TL.set {W:World} {g:Nat→Ky} (h:TL w W f B g) (k:Nat) (hk:k<21) (a b:Int):TL w ((W.setCell ⟨B,k * 2,none⟩ (.int .i64 a)).setCell ⟨B,k * 2+1,none⟩ (.int .i64 b)) f B (EA g k ⟨a,b⟩):=by
 have hf:=h.far;exact ⟨⟨(eh (by omega) _ _ _ _).trans h.ts.ks,(eh (by omega) _ _ _ _).trans h.ts.ze,ei h.ts.aK (by omega) _ _ _ _⟩,h.nx.Ng k hk a b,hf⟩
/- What Turn answers. -/
def ey (f:Nat→Ky) (r:Nat) (n:Int):Ending:=.returned (.tuple #[.agg (bF (R_ f r n)),.int .i64 (VL f r n),.int .i64 (l9 f r n)])
theorem ey.no {r:Nat} {x:Int} (h:l9 f r n=x) (hx:x≠0):Ending.returned (.tuple #[.agg (bF fun _=>zK),.int .i64 0,.int .i64 x])=ey f r n:=by
 unfold ey R_ VL;rw [h,if_neg hx,if_neg hx]
theorem ey.yes {r:Nat} (h:l9 f r n=0):Ending.returned (.tuple #[.agg (bF (kI f r n)),.int .i64 (n+((cu r 21:Nat):Int)),.int .i64 0])=ey f r n:=by
 unfold ey R_ VL;rw [h,if_pos rfl,if_pos rfl]
theorem abP (r v:Nat) (hr:r<4294967296):bits .and .u32 ((r:Int)/2^v) 1=if r.testBit v then 1 else 0:=by
 have e:(r:Int)/2^v=((r/2^v:Nat):Int):=by simp
 have hlt:r/2^v<4294967296:=Nat.lt_of_le_of_lt (Nat.div_le_self _ _) hr;generalize hx:r/2^v=x at *;rw [e,u32_and _ _ (by omega) (by omega) (by omega) (by omega)]
 have h2:((x:Int)).toNat&&& (1:Int).toNat=x%2:=by
  rw [Int.toNat_natCast];exact Nat.and_one_is_mod _
 rw [h2,Nat.testBit_eq_decide_div_mod_eq,hx];rcases Nat.mod_two_eq_zero_or_one x with h | h <;> simp [h]
set_option maxRecDepth 100000 in
theorem MM (f:Nat→Ky) (r:Nat) (hr:r<4294967296) (n:Int) (w:World):
  Calls prog 106 #[.agg (bF f),.int .u32 (r:Int),.int .i64 n] w fun e w'=>e=ey f r n∧Below w.heap.size w w':=by
 have Lr:=TS.new w f;go_enter func106,ntmps106;go_upto_region 1 with (fail)
 rw [u9];generalize (w.alloc (.cells (bF f) 33)).alloc (.cells (bF fun _=>zK) 33)=w1 at *;refine wp_region_lit ?_;refine Yu Lr.ks rfl _ rfl rfl ?_;have dH:=fH f w1;obtain ⟨cf,Lm⟩:∃cf,bF f=cf:=⟨_,rfl⟩;rw [Lm] at dH ⊢;clear Lm;go_wp2_with fail
 refine dH.mono ?_;rintro e w2 ⟨rfl,hb2⟩;have jS:=Lr.later hb2;clear dH hb2 Lr
 cases AO:eH f with
 | false=>
  rw [fh AO];go_wp2_with (refine Kf (g:=fun _=>zK) jS.ze rfl _ _ rfl rfl ic ?_)
  refine bodyPost_ret (bZ (p:=6) (t:=7) (u:=8) rfl _ _ (w.heap.size+1) (fun _=>zK) rfl (jS.ze.row _)) rfl ?_;exact ⟨ey.no (rH AO) (by decide),ag (by omega) jS.aK _⟩
 | true=>
  rw [kT AO];by_cases hr2:r<2097152
  ·have hs:(r:Int)/2097152=0:=by omega
   have h1:=vY r hr2;have h2:=nM f n (cu r 21) (tL _ _);rw [←UL] at h2;have L_:Hid (cu r 21≤21):=tL _ _;obtain ⟨q,hq⟩:∃q,cu r 21=q:=⟨_,rfl⟩;rw [hq] at h1 h2;have HQ:Hid (cu r 21=q):=hq;clear hq;go_upto_region 6 with (fail)
   have dm:TS w w2.drew f:=jS.later (aG _);clear hs
   cases IW:wV f r n with
   | false=>
    rw [IW] at h2;refine wp_region_held_drew (S:=fun W=>TS w W f) (by kernel_rfl) dm (fun hHeld=>?_);refine dG 0 (.agg (bF f)) rfl (fun w hSw=>CY hSw.ks rfl rfl) ?_;go_frame;refine aH 1 (.int .i64 n) rfl ?_;go_frame;refine aH 2 (.int .u32 (r:Int)) rfl ?_;go_frame;refine dh 3 rfl fun K hK=>?_;go_simp
    refine (h1 _).mono ?_;rintro e w3 ⟨rfl,hb3⟩;go_wp2_with fail
    refine hK.out _ _ (hHeld.later hb3) (fun aD=>?_);clear hHeld hb3;clear hK K;try go_frame
    refine dh 4 rfl fun K hK=>?_;go_simp
    refine (h2 _).mono ?_;rintro e w4 ⟨rfl,hb4⟩;go_wp2_with fail
    refine hK.out _ _ (aD.later hb4) (fun aN=>?_);clear aD hb4;clear hK K;try go_frame
    refine aH 5 (.bool true) rfl ?_;go_frame;refine wpAnyH_done (by kernel_rfl) ?_ _;go_wp2_with (refine Kf (g:=fun _=>zK) aN.ze rfl _ _ rfl rfl ic ?_)
    refine bodyPost_ret (bZ (p:=6) (t:=7) (u:=8) rfl _ _ (w.heap.size+1) (fun _=>zK) rfl (aN.ze.row _)) rfl ?_;exact ⟨ey.no (nX AO hr2 IW) (by decide),ag (by omega) aN.aK _⟩
   | true=>
    rw [IW] at h2;refine wp_region_held_drew (S:=fun W=>TS w W f) (by kernel_rfl) dm (fun hHeld=>?_);refine dG 0 (.agg (bF f)) rfl (fun w hSw=>CY hSw.ks rfl rfl) ?_;go_frame;refine aH 1 (.int .i64 n) rfl ?_;go_frame;refine aH 2 (.int .u32 (r:Int)) rfl ?_;go_frame;refine dh 3 rfl fun K hK=>?_;go_simp
    refine (h1 _).mono ?_;rintro e w3 ⟨rfl,hb3⟩;go_wp2_with fail
    refine hK.out _ _ (hHeld.later hb3) (fun aD=>?_);clear hHeld hb3;clear hK K;try go_frame
    refine dh 4 rfl fun K hK=>?_;go_simp
    refine (h2 _).mono ?_;rintro e w4 ⟨rfl,hb4⟩;go_wp2_with fail
    refine hK.out _ _ (aD.later hb4) (fun aN=>?_);clear aD hb4;clear hK K;try go_frame
    refine aH 5 (.bool false) rfl ?_;go_frame;refine wpAnyH_done (by kernel_rfl) ?_ _;clear h1 h2 dm jS;go_upto_region 9 with (fail)
    rw [u9];have hL5:TL w (w4.alloc (.cells (bF fun _=>zK) 33)) f w4.heap.size (xB (fun _=>zK) f r n 0):=⟨aN.later (jK _ _),(bq.new _ _).congr (B_ _ _ _ _).symm,aN.ze.lt⟩;clear aN;generalize w4.alloc (.cells (bF fun _=>zK) 33)=w6 at *;generalize w4.heap.size=Bn at *;have HL5:Hid (TL w w6 f Bn (xB (fun _=>zK) f r n 0)):=hL5;clear hL5;go_wp2_with fail
    go_loopw [2,11] (fun x i wx=>∃j:Nat,j≤21∧i=.int .i64 (20 - (j:Int))∧x=.int .i64 (n+((cd r j:Nat):Int))∧TL w wx f Bn (xB (fun _=>zK) f r n j)∧∀m,m<j→Ew f r (20 - m)=false) (fun _ i _=>(intOf i+1).toNat)
    case atStart=>exact ⟨0,by omega,rfl,by simp [cd],HL5.out,fun m hm=>by omega⟩
    case round=>
     obtain ⟨j,hj,rfl,rfl,hL,hsk⟩:=hrel;have HL:Hid (TL w wr f Bn (xB (fun _=>zK) f r n j)):=hL;have HSK:Hid (∀m,m<j→Ew f r (20 - m)=false):=hsk;clear hL hsk HL5;by_cases EC:j<21
     ·obtain ⟨v,hv⟩:∃v:Nat,20 - j=v:=⟨_,rfl⟩;have Pq:(20:Int) - (j:Int)=(v:Int):=by omega
      rw [Pq];have v0:(0:Int)≤(v:Int):=by omega
      have v1:(v:Int)<21:=by omega
      have vw:IntKind.u64.wrap (v:Int)=(v:Int):=by rw [IntKind.wrap_u64];omega
      obtain ⟨y,hy⟩:∃y:Int,n+((cd r j:Nat):Int)=y:=⟨_,rfl⟩;rw [hy];have HY:Hid (n+((cd r j:Nat):Int)=y):=hy;have HV:Hid (20 - j=v):=hv;clear hy hv Pq;have hand:=abP r v hr;obtain ⟨c0,c1⟩:=HL.out.nx.cells v (by omega);have f0:=ax HL.out.nx (v * 2);have f1:=ax HL.out.nx (v * 2+1);have HI:Hid ((20:Int) - ((j+1:Nat):Int)=(v:Int) - 1):=by have:=HV.out;unfold Hid;omega
      have HVJ:Hid (20 - v=j):=by have:=HV.out;unfold Hid;omega
      have adf:=nB r j;have HCD:Hid (cd r (j+1)=cd r j+b1 r v):=by have:=HV.out;rw [←this];exact rfl
      have HTS:Hid (xB (fun _=>zK) f r n (j+1)=EA (xB (fun _=>zK) f r n j) v (kI f r n v)):=by have:=Ca (fun _=>zK) f r n EC;rw [HV.out] at this;exact this
      cases hb:r.testBit v with
      | true=>
       rw [hb] at hand;obtain ⟨DB,fk2,_⟩:=AZ IW (by omega:v<21) hb;have HY1:Hid (y+1=n+((cd r (j+1):Nat):Int)):=by have h1:=HY.out;have h2:=HCD.out;unfold b1 at h2;rw [hb] at h2;simp at h2;unfold Hid;omega
       have hyw:IntKind.i64.wrap (y+1)=y+1:=bC _ (by have:=HY.out;omega) (by have:=HY.out;have:=L_.out;omega);have HL2:Hid (TL w ((wr.setCell ⟨Bn,v * 2,none⟩ (.int .i64 y)).setCell ⟨Bn,v * 2+1,none⟩ (.int .i64 0)) f Bn (EA (xB (fun _=>zK) f r n j) v ⟨y,0⟩)):=HL.out.set v (by omega) y 0;clear DB fk2;go_wp2_with fail
       go_roundw
       case rel=>
        refine ⟨j+1,by omega,by rw [HI.out],by rw [←HY1.out],?_,fun m hm=>?_⟩
        ·rw [HTS.out,ly hb,HVJ.out,HY.out];exact HL2.out
        ·rcases Nat.lt_or_ge m j with h | h
         ·exact HSK.out m h
         ·obtain rfl:m=j:=by omega
          unfold Ew;rw [HV.out,hb];rfl
       case measure=>simp [intOf]
      | false=>
       rw [hb] at hand;obtain ⟨d0,d1⟩:=HL.out.ts.ks.cells v (by omega);obtain ⟨hG,_⟩:=(il.1 AO).1 v (by omega);have HY1:Hid (y=n+((cd r (j+1):Nat):Int)):=by have h1:=HY.out;have h2:=HCD.out;unfold b1 at h2;rw [hb] at h2;simp at h2;unfold Hid;omega
       have rA:Hid (kI f r n v=⟨(f v).aB,(f v).bp+1⟩):=jZ hb;have HSV:Hid (Ew f r v=decide (254<(f v).bp)):=by unfold Ew;rw [hb];rfl
       obtain ⟨e,he⟩:∃e,f v=e:=⟨_,rfl⟩;rw [he] at d0 d1 hG rA HSV;have HFE:Hid (f v=e):=he;clear he;by_cases hst:254<e.bp
       ·have ha:=zA e.aB e.bp 1 hG (Or.inr (by omega)) wr;clear c0 c1 f0 f1;go_wp2_with fail
        refine ha.mono ?_;rintro a w7 ⟨rfl,iK⟩;have Y1:=(HL.out.ts.later iK).later (aa w7 (.cells #[.int .i64 0,.int .i64 0] 31));clear ha iK d0 d1;go_wp2_with (refine Kf (g:=fun _=>zK) Y1.ze rfl _ _ rfl rfl ic ?_)
        refine bodyPost_ret (bZ (p:=6) (t:=7) (u:=8) rfl _ _ (w.heap.size+1) (fun _=>zK) rfl (Y1.ze.row _)) rfl ?_;exact ⟨ey.no (vg AO hr2 IW (rO (v:=v) (by omega) (by rw [HSV.out];exact decide_eq_true hst))) (by decide),ag (by omega) Y1.aK _⟩
       ·have ha:=zz e.aB e.bp 1 hG (by omega) (by omega) wr;clear c0 c1 f0 f1;go_wp2_with fail
        refine ha.mono ?_;rintro a w7 ⟨rfl,iK⟩;have P9:=(HL.out.later iK).later (aa w7 (.cells #[.int .i64 e.aB,.int .i64 (e.bp+1)] 31));obtain ⟨c0,c1⟩:=P9.nx.cells v (by omega);have f0:=ax P9.nx (v * 2);have f1:=ax P9.nx (v * 2+1);have HL9:Hid (TL w (((w7.alloc (.cells #[.int .i64 e.aB,.int .i64 (e.bp+1)] 31)).setCell ⟨Bn,v * 2,none⟩ (.int .i64 e.aB)).setCell ⟨Bn,v * 2+1,none⟩ (.int .i64 (e.bp+1))) f Bn (EA (xB (fun _=>zK) f r n j) v ⟨e.aB,e.bp+1⟩)):=P9.set v (by omega) e.aB (e.bp+1);clear ha iK d0 d1 P9;go_wp2_with fail
        go_roundw
        case rel=>
         refine ⟨j+1,by omega,by rw [HI.out],by rw [←HY1.out],?_,fun m hm=>?_⟩
         ·rw [HTS.out,rA.out];exact HL9.out
         ·rcases Nat.lt_or_ge m j with h | h
          ·exact HSK.out m h
          ·obtain rfl:m=j:=by omega
           rw [HV.out,HSV.out];exact decide_eq_false (by omega)
        case measure=>simp [intOf]
     ·obtain rfl:j=21:=by omega
      have Ev:Hid (l9 f r n=0):=vh AO hr2 IW (vp fun v hv=>by have:=HSK.out (20 - v) (by omega);rw [show 20 - (20 - v)=v by omega] at this;exact this);have hN:=HL.out.nx.congr (Hl _ _ _ _);rw [show cd r 21=cu r 21 from Bc r];obtain ⟨y,hy⟩:∃y:Int,n+((cu r 21:Nat):Int)=y:=⟨_,rfl⟩;rw [hy];have HY:Hid (n+((cu r 21:Nat):Int)=y):=hy;clear hy;go_upto_region 19 with (fail)
      refine wp_region_lit ?_;refine Yu hN rfl _ rfl rfl ?_;go_wp2_with (refine Kf (g:=kI f r n) HL.out.ts.ze rfl _ _ rfl rfl rfl ?_)
      refine bodyPost_ret (bZ (p:=6) (t:=7) (u:=8) rfl _ _ (w.heap.size+1) (kI f r n) rfl (HL.out.ts.ze.row _)) rfl ?_;refine ⟨?_,ag (by omega) HL.out.ts.aK _⟩;rw [←ey.yes Ev.out,HY.out];rfl
  ·have hs:((r:Int)/2097152==0)=false:=by simp;omega
   have hs2:¬((r:Int)/2097152=0):=by omega
   go_wp2_with (refine Kf (g:=fun _=>zK) jS.ze rfl _ _ rfl rfl ic ?_)
   refine bodyPost_ret (bZ (p:=6) (t:=7) (u:=8) rfl _ _ (w.heap.size+1) (fun _=>zK) rfl (jS.ze.row _)) rfl ?_;exact ⟨ey.no (vk AO hr2) (by decide),ag (by omega) jS.aK _⟩
variable {i:Nat} {f:Nat→Ky} {n:Int}
theorem Fs (b s n:Int) (h:Gd b s) (h0:0≤n) (h1:n≤255 - s) (w:World):
  Calls prog 84 #[.agg #[.int .i64 b,.int .i64 s],.int .i64 n] w fun e w'=>e=.returned (.tuple #[.agg #[.int .i64 b,.int .i64 (s+n)],.int .i64 0])∧Below w.heap.size w w':=by
 have h3:=h.2.2.1;refine (yP b s n h h0 (by omega) w).mono ?_;rintro e w' ⟨he,hb⟩;rw [if_pos (by omega)] at he;exact ⟨he,hb⟩
theorem Fv (b s n:Int) (h:Gd b s) (hn:n<0∨255 - s<n) (w:World):
  Calls prog 84 #[.agg #[.int .i64 b,.int .i64 s],.int .i64 n] w fun e w'=>e=.returned (.tuple #[.agg #[.int .i64 0,.int .i64 0],.int .i64 4])∧Below w.heap.size w w':=by
 by_cases hi:0≤n∧n≤255
 ·refine (yP b s n h hi.1 hi.2 w).mono ?_;rintro e w' ⟨he,hb⟩;rw [if_neg (by omega)] at he;exact ⟨he,hb⟩
 ·exact Fu b s n h (by omega) w
theorem TS.set {w W:World} {g:Nat→Ky} (h:TS w W g) (k:Nat) (hk:k<21) (a b:Int):TS w ((W.setCell ⟨w.heap.size,k * 2,none⟩ (.int .i64 a)).setCell ⟨w.heap.size,k * 2+1,none⟩ (.int .i64 b)) (EA g k ⟨a,b⟩):=
 ⟨h.ks.Ng k hk a b,(eh (by omega) _ _ _ _).trans h.ze,ei h.aK (Nat.le_refl _) _ _ _ _⟩
theorem PR {r:Nat} (hr:r<4294967296) (h:∀i,21≤i→i<32→r.testBit i=false):r<2097152:=by
 rcases Nat.lt_or_ge r 2097152 with h1 | h1
 ·exact h1
 ·exfalso;obtain ⟨i,hi,hb⟩:=Nat.exists_ge_and_testBit_of_ge_two_pow (n:=21) (x:=r) (by simpa using h1);rcases Nat.lt_or_ge i 32 with h2 | h2
  ·rw [h i hi h2] at hb;cases hb
  ·rw [Nat.testBit_lt_two_pow (Nat.lt_of_lt_of_le hr (by have:=Nat.pow_le_pow_right (n:=2) (by omega) h2;simpa using this))] at hb;cases hb
theorem TW {r:Nat} (hr:r<2097152) (hi:21≤i):r.testBit i=false:=Nat.testBit_lt_two_pow (Nat.lt_of_lt_of_le hr (by have:=Nat.pow_le_pow_right (n:=2) (by omega) hi;simpa using this))
theorem Dy {r:Nat} (h:cu r 21=0):wV f r n=true:=by unfold wV;rw [h];rfl
theorem I8 {r:Nat} (h:¬cu r 21=0) (h2:n<1∨32768 - (cu r 21:Int)<n):wV f r n=false:=by
 unfold wV;rw [decide_eq_false h,Bool.false_or];rcases h2 with h2 | h2
 ·rw [decide_eq_false (by omega),Bool.false_and]
 ·rw [decide_eq_false (p:=n≤_) (by omega),Bool.false_and,Bool.and_false]
theorem LA {r:Nat} (h:¬cu r 21=0) (hi:i<21) (hc:dW (f i) n (n+(cu r 21:Int))=true):wV f r n=false:=by
 unfold wV;rw [decide_eq_false h,Bool.false_or,ql hi hc,Bool.not_true,Bool.and_false,Bool.and_false]
theorem Dz {r:Nat} (h1:1≤n) (h2:n≤32768 - (cu r 21:Int)) (hc:∀i,i<21→dW (f i) n (n+(cu r 21:Int))=false):wV f r n=true:=by
 unfold wV;rw [decide_eq_true h1,decide_eq_true h2,Au hc];simp
/- Behind the tests: the nodes from the greatest down. -/
set_option maxRecDepth 100000 in
theorem KF (f:Nat→Ky) (r:Nat) (hr:r<4294967296) (n:Int) (w:World):
  Calls prog 42 #[.agg (bF f),.int .u32 (r:Int),.int .i64 n] w fun e w'=>e=ey f r n∧Below w.heap.size w w':=by
 have Lr:=TS.new w f;go_enter func42,ntmps42;go_upto_region 1 with (fail)
 rw [u9];generalize (w.alloc (.cells (bF f) 33)).alloc (.cells (bF fun _=>zK) 33)=w1 at *;refine wp_region_lit ?_;refine Yu Lr.ks rfl _ rfl rfl ?_;have dH:=fy f w1;obtain ⟨cf,Lm⟩:∃cf,bF f=cf:=⟨_,rfl⟩;rw [Lm] at dH ⊢;clear Lm;go_wp2_with fail
 refine dH.mono ?_;rintro e w2 ⟨rfl,hb2⟩;have jS:=Lr.later hb2;clear dH hb2 Lr
 cases AO:eH f with
 | false=>
  rw [fh AO];go_wp2_with (refine Kf (g:=fun _=>zK) jS.ze rfl _ _ rfl rfl ic ?_)
  refine bodyPost_ret (bZ (p:=6) (t:=7) (u:=8) rfl _ _ (w.heap.size+1) (fun _=>zK) rfl (jS.ze.row _)) rfl ?_;exact ⟨ey.no (rH AO) (by decide),ag (by omega) jS.aK _⟩
 | true=>
  rw [kT AO];go_wp2_with fail
  go_loopw [9] (fun i wx=>∃k:Nat,21≤k∧k≤32∧i=.int .i64 (k:Int)∧wx=w2∧∀m,21≤m→m<k→r.testBit m=false) (fun i _=>32 - (intOf i).toNat)
  case atStart=>exact ⟨21,by omega,by omega,rfl,rfl,fun m h1 h2=>by omega⟩
  case round=>
   obtain ⟨k,IP,hk,rfl,rfl,hf⟩:=hrel;have HF:Hid (∀m,21≤m→m<k→r.testBit m=false):=hf;clear hf;by_cases dA:k<32
   ·have k8:(k:Int)<32:=by omega
    have ED:=lH r k hr dA wr
    cases hb:r.testBit k with
    | true=>
     rw [hb] at ED;go_wp2_with (first | (go_at_call 45;refine ED.mono ?_;rintro e wr ⟨rfl,rfl⟩) | (refine Kf (g:=fun _=>zK) jS.ze rfl _ _ rfl rfl ic ?_))
     refine bodyPost_ret (bZ (p:=6) (t:=7) (u:=8) rfl _ _ (w.heap.size+1) (fun _=>zK) rfl (jS.ze.row _)) rfl ?_;exact ⟨ey.no (vk AO fun h=>by rw [TW h IP] at hb;cases hb) (by decide),ag (by omega) jS.aK _⟩
    | false=>
     rw [hb] at ED;go_wp2_with (go_at_call 45;refine ED.mono ?_;rintro e wr ⟨rfl,rfl⟩)
     go_roundw
     case rel=>
      refine ⟨k+1,by omega,by omega,by go_num,by first | rfl | trivial,fun m h1 h2=>?_⟩;rcases Nat.lt_or_ge m k with h | h
      ·exact HF.out m h1 h
      ·obtain rfl:m=k:=by omega
       exact hb
     case measure=>simp [intOf];omega
   ·obtain rfl:k=32:=by omega
    rw [show ((32:Nat):Int)=32 from rfl];have hr2:r<2097152:=PR hr fun i h1 h2=>HF.out i h1 h2
    clear HF hk IP dA;have f_:=pA r hr wr;have YT:=tL r 21;obtain ⟨q,hq⟩:∃q,cu r 21=q:=⟨_,rfl⟩;rw [hq] at f_ YT;have HQ:Hid (cu r 21=q):=hq;clear hq;go_upto_region 9 with (go_at_call 83;refine f_.mono ?_;rintro e wr ⟨rfl,rfl⟩)
    clear f_;have hqs:IntKind.i64.wrap (32768 - (q:Int))=32768 - (q:Int):=bC _ (by omega) (by omega);by_cases Gg:0<q∧(n<1∨32768 - (q:Int)<n)
    ·obtain ⟨Df,Gg⟩:=Gg;have De:(0:Int)<(q:Int):=by omega
     have HFK:Hid (wV f r n=false):=I8 (by rw [HQ.out];omega) (by rw [HQ.out];exact Gg);by_cases Dg:n<1
     ·clear Gg;go_wp2_with (refine Kf (g:=fun _=>zK) jS.ze rfl _ _ rfl rfl ic ?_)
      refine bodyPost_ret (bZ (p:=6) (t:=7) (u:=8) rfl _ _ (w.heap.size+1) (fun _=>zK) rfl (jS.ze.row _)) rfl ?_;exact ⟨ey.no (nX AO hr2 HFK.out) (by decide),ag (by omega) jS.aK _⟩
     ·have uf:32768 - (q:Int)<n:=by omega
      clear Gg;go_wp2_with (refine Kf (g:=fun _=>zK) jS.ze rfl _ _ rfl rfl ic ?_)
      refine bodyPost_ret (bZ (p:=6) (t:=7) (u:=8) rfl _ _ (w.heap.size+1) (fun _=>zK) rfl (jS.ze.row _)) rfl ?_;exact ⟨ey.no (nX AO hr2 HFK.out) (by decide),ag (by omega) jS.aK _⟩
    ·by_cases Df:q=0
     case' pos=>
      subst Df;rw [show ((0:Nat):Int)=0 from rfl];have IW:wV f r n=true:=Dy HQ.out;clear Gg hqs YT;go_wp2_with fail
      go_loopw [11] (fun i wx=>i=.int .i64 0∧wx=wr) (fun i _=>0)
      case atStart=>exact ⟨rfl,rfl⟩
      case' round=>obtain ⟨rfl,rfl⟩:=hrel
     case' neg=>
      have Dg:1≤n:=by omega
      have uf:n≤32768 - (q:Int):=by omega
      have De:(0:Int)<(q:Int):=by omega
      have hnq:IntKind.i64.wrap (n+(q:Int))=n+(q:Int):=bC _ (by omega) (by omega);clear Gg;go_wp2_with fail
      go_loopw [11] (fun i wx=>∃k:Nat,k≤21∧i=.int .i64 (k:Int)∧wx=wr∧∀m,m<k→dW (f m) n (n+(q:Int))=false) (fun i _=>21 - (intOf i).toNat)
      case atStart=>exact ⟨0,by omega,rfl,rfl,fun m hm=>by omega⟩
      case' round=>
       obtain ⟨k,hk,rfl,rfl,hf⟩:=hrel;have HF:Hid (∀m,m<k→dW (f m) n (n+(q:Int))=false):=hf;clear hf;by_cases dA:k<21
       case pos=>
        have k8:(k:Int)<21:=by omega
        have k0:(0:Int)≤(k:Int):=by omega
        obtain ⟨c0,c1⟩:=jS.ks.cells k dA;have HN:Hid (dW (f k) n (n+(q:Int))=(decide (n≤(f k).aB)&&decide ((f k).aB<n+(q:Int)))):=rfl;obtain ⟨b,hb⟩:∃b,(f k).aB=b:=⟨_,rfl⟩;rw [hb] at c0 HN;clear hb c1;by_cases g1:n≤b
        ·by_cases g2:b<n+(q:Int)
         ·go_wp2_with (refine Kf (g:=fun _=>zK) jS.ze rfl _ _ rfl rfl ic ?_)
          refine bodyPost_ret (bZ (p:=6) (t:=7) (u:=8) rfl _ _ (w.heap.size+1) (fun _=>zK) rfl (jS.ze.row _)) rfl ?_;exact ⟨ey.no (nX AO hr2 (LA (by rw [HQ.out];omega) dA (by rw [HQ.out,HN.out,decide_eq_true g1,decide_eq_true g2];rfl))) (by decide),ag (by omega) jS.aK _⟩
         ·go_wp2_with fail
          go_roundw
          case rel=>
           refine ⟨k+1,by omega,by go_num,by first | rfl | trivial,fun m hm=>?_⟩;rcases Nat.lt_or_ge m k with h | h
           ·exact HF.out m h
           ·obtain rfl:m=k:=by omega
            rw [HN.out,decide_eq_false g2,Bool.and_false]
          case measure=>simp [intOf];omega
        ·go_wp2_with fail
         go_roundw
         case rel=>
          refine ⟨k+1,by omega,by go_num,by first | rfl | trivial,fun m hm=>?_⟩;rcases Nat.lt_or_ge m k with h | h
          ·exact HF.out m h
          ·obtain rfl:m=k:=by omega
           rw [HN.out,decide_eq_false g1,Bool.false_and]
         case measure=>simp [intOf];omega
       case' neg=>
        obtain rfl:k=21:=by omega
        rw [show ((21:Nat):Int)=21 from rfl];have IW:wV f r n=true:=Dz Dg (by rw [HQ.out];exact uf) (by rw [HQ.out];exact HF.out);clear HF hk dA De hnq Dg uf hqs YT
     all_goals
      have HT:Hid (TS w wr (xB f f r n 0)):=by have e:bF (xB f f r n 0)=bF f:=B_ _ _ _ _;exact ⟨jS.ks.congr e.symm,jS.ze,jS.aK⟩
      clear jS;go_wp2_with fail
      go_loopw [2,12] (fun x i wx=>∃j:Nat,j≤21∧i=.int .i64 (20 - (j:Int))∧x=.int .i64 (n+((cd r j:Nat):Int))∧TS w wx (xB f f r n j)∧∀m,m<j→Ew f r (20 - m)=false) (fun _ i _=>(intOf i+1).toNat)
      case atStart=>exact ⟨0,by omega,rfl,by simp [cd],HT.out,fun m hm=>by omega⟩
      case round=>
       obtain ⟨j,hj,rfl,rfl,hL,hsk⟩:=hrel;have HL:Hid (TS w wr (xB f f r n j)):=hL;have HSK:Hid (∀m,m<j→Ew f r (20 - m)=false):=hsk;clear hL hsk HT;by_cases EC:j<21
       ·obtain ⟨v,hv⟩:∃v:Nat,20 - j=v:=⟨_,rfl⟩;have Pq:(20:Int) - (j:Int)=(v:Int):=by omega
        rw [Pq];have v0:(0:Int)≤(v:Int):=by omega
        have v1:(v:Int)<21:=by omega
        obtain ⟨y,hy⟩:∃y:Int,n+((cd r j:Nat):Int)=y:=⟨_,rfl⟩;rw [hy];have HY:Hid (n+((cd r j:Nat):Int)=y):=hy;have HV:Hid (20 - j=v):=hv;have hvl:v<21:=by omega
        clear hy hv Pq;have ED:=lH r v hr (by omega) wr;obtain ⟨c0,c1⟩:=HL.out.ks.cells v (by omega);have hat:xB f f r n j v=f v:=by have:=XB f f r n EC;rw [HV.out] at this;exact this
        rw [hat] at c0 c1;clear hat;have f0:=ax HL.out.ks (v * 2);have f1:=ax HL.out.ks (v * 2+1);have HI:Hid ((20:Int) - ((j+1:Nat):Int)=(v:Int) - 1):=by have:=HV.out;unfold Hid;omega
        have HVJ:Hid (20 - v=j):=by have:=HV.out;unfold Hid;omega
        have JW:Hid (j<21):=EC;have adf:=nB r j;have HCD:Hid (cd r (j+1)=cd r j+b1 r v):=by have:=HV.out;rw [←this];exact rfl
        have HTS:Hid (xB f f r n (j+1)=EA (xB f f r n j) v (kI f r n v)):=by have:=Ca f f r n EC;rw [HV.out] at this;exact this
        cases hb:r.testBit v with
        | true=>
         rw [hb] at ED;obtain ⟨DB,fk2,_⟩:=AZ IW (by omega:v<21) hb;have HY1:Hid (y+1=n+((cd r (j+1):Nat):Int)):=by have h1:=HY.out;have h2:=HCD.out;unfold b1 at h2;rw [hb] at h2;simp at h2;unfold Hid;omega
         have hyw:IntKind.i64.wrap (y+1)=y+1:=bC _ (by have:=HY.out;omega) (by have:=HY.out;omega);have HL2:Hid (TS w ((wr.setCell ⟨w.heap.size,v * 2,none⟩ (.int .i64 y)).setCell ⟨w.heap.size,v * 2+1,none⟩ (.int .i64 0)) (EA (xB f f r n j) v ⟨y,0⟩)):=HL.out.set v (by omega) y 0;clear DB fk2;go_wp2_with (go_at_call 45;refine ED.mono ?_;rintro e wr ⟨rfl,rfl⟩)
         go_roundw
         case rel=>
          refine ⟨j+1,by have:=JW.out;omega,by rw [HI.out],by rw [←HY1.out],?_,fun m hm=>?_⟩
          ·rw [HTS.out,ly hb,HVJ.out,HY.out];exact HL2.out
          ·rcases Nat.lt_or_ge m j with h | h
           ·exact HSK.out m h
           ·obtain rfl:m=j:=by omega
            unfold Ew;rw [HV.out,hb];rfl
         case measure=>simp [intOf]
        | false=>
         rw [hb] at ED;obtain ⟨hG,_⟩:=(il.1 AO).1 v (by omega);have HY1:Hid (y=n+((cd r (j+1):Nat):Int)):=by have h1:=HY.out;have h2:=HCD.out;unfold b1 at h2;rw [hb] at h2;simp at h2;unfold Hid;omega
         have rA:Hid (kI f r n v=⟨(f v).aB,(f v).bp+1⟩):=jZ hb;have HSV:Hid (Ew f r v=decide (254<(f v).bp)):=by unfold Ew;rw [hb];rfl
         obtain ⟨e,he⟩:∃e,f v=e:=⟨_,rfl⟩;rw [he] at c0 c1 hG rA HSV;have HFE:Hid (f v=e):=he;clear he;by_cases hst:254<e.bp
         ·have ha:=Fv e.aB e.bp 1 hG (Or.inr (by omega)) wr;clear f0 f1;go_wp2_with (go_at_call 45;refine ED.mono ?_;rintro e wr ⟨rfl,rfl⟩)
          refine ha.mono ?_;rintro a w7 ⟨rfl,iK⟩;have Y1:=(HL.out.later iK).later (aa w7 (.cells #[.int .i64 0,.int .i64 0] 31));clear ha iK c0 c1;go_wp2_with (refine Kf (g:=fun _=>zK) Y1.ze rfl _ _ rfl rfl ic ?_)
          refine bodyPost_ret (bZ (p:=6) (t:=7) (u:=8) rfl _ _ (w.heap.size+1) (fun _=>zK) rfl (Y1.ze.row _)) rfl ?_;exact ⟨ey.no (vg AO hr2 IW (rO (v:=v) hvl (by rw [HSV.out];exact decide_eq_true hst))) (by decide),ag (by omega) Y1.aK _⟩
         ·have ha:=Fs e.aB e.bp 1 hG (by omega) (by omega) wr;clear f0 f1;go_wp2_with (go_at_call 45;refine ED.mono ?_;rintro e wr ⟨rfl,rfl⟩)
          refine ha.mono ?_;rintro a w7 ⟨rfl,iK⟩;clear c0 c1;have P9:=(HL.out.later iK).later (aa w7 (.cells #[.int .i64 e.aB,.int .i64 (e.bp+1)] 31));obtain ⟨c0,c1⟩:=P9.ks.cells v (by omega);have f0:=ax P9.ks (v * 2);have f1:=ax P9.ks (v * 2+1);have HL9:Hid (TS w (((w7.alloc (.cells #[.int .i64 e.aB,.int .i64 (e.bp+1)] 31)).setCell ⟨w.heap.size,v * 2,none⟩ (.int .i64 e.aB)).setCell ⟨w.heap.size,v * 2+1,none⟩ (.int .i64 (e.bp+1))) (EA (xB f f r n j) v ⟨e.aB,e.bp+1⟩)):=P9.set v (by omega) e.aB (e.bp+1);clear ha iK P9;go_wp2_with fail
          go_roundw
          case rel=>
           refine ⟨j+1,by have:=JW.out;omega,by rw [HI.out],by rw [←HY1.out],?_,fun m hm=>?_⟩
           ·rw [HTS.out,rA.out];exact HL9.out
           ·rcases Nat.lt_or_ge m j with h | h
            ·exact HSK.out m h
            ·obtain rfl:m=j:=by omega
             rw [HV.out,HSV.out];exact decide_eq_false (by omega)
          case measure=>simp [intOf]
       ·obtain rfl:j=21:=by omega
        have Ev:Hid (l9 f r n=0):=vh AO hr2 IW (vp fun v hv=>by have:=HSK.out (20 - v) (by omega);rw [show 20 - (20 - v)=v by omega] at this;exact this);have hN:=HL.out.ks.congr (Hl _ _ _ _);rw [show cd r 21=cu r 21 from Bc r];obtain ⟨y,hy⟩:∃y:Int,n+((cu r 21:Nat):Int)=y:=⟨_,rfl⟩;rw [hy];have HY:Hid (n+((cu r 21:Nat):Int)=y):=hy;clear hy;go_upto_region 26 with (fail)
        refine wp_region_lit ?_;refine Yu hN rfl _ rfl rfl ?_;go_wp2_with (refine Kf (g:=kI f r n) HL.out.ze rfl _ _ rfl rfl rfl ?_)
        refine bodyPost_ret (bZ (p:=6) (t:=7) (u:=8) rfl _ _ (w.heap.size+1) (kI f r n) rfl (HL.out.ze.row _)) rfl ?_;refine ⟨?_,ag (by omega) HL.out.aK _⟩;rw [←ey.yes Ev.out,HY.out];rfl
end Go.Proofs.YtanaapfobpgibaaGreatDoor.Rt
