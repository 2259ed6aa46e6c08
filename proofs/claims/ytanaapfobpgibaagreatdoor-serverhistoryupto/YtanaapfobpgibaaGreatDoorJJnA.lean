/- JnA, JnB, JnC, JnC2, JnL, joined. -/
import Derived.Test.YtanaapfobpgibaaGreatDoorJJnO
import Derived.Test.YtanaapfobpgibaaGreatDoorJDkC
import Derived.Test.YtanaapfobpgibaaGreatDoorJFrY
open Go.Proofs.Tryz
set_option maxHeartbeats 4000000
namespace Go.Proofs.YtanaapfobpgibaaGreatDoor.Jr.Dk
open Go.RowKit Go.Maps
set_option linter.unusedVariables false
set_option maxRecDepth 4000
set_option linter.unusedSimpArgs false
variable {N b m p:Nat} {w:World} {x:Value}
theorem bY.next {w1 w2:World} {s2:St} {x1:Value} (k1:Kept (Fd p b m x) w w1) (f1:∀k,Fd p b m x1 k→Fd p b m x k∨w.heap.size≤k) (h:bY N w1 p s2 b m x1 w2):bY N w p s2 b m x w2:=by
 obtain ⟨x2,d2,k2,f2⟩:=h;refine ⟨x2,d2,k1.trans k2 (fun i hi hF=>(f1 i hF).elim id (fun h=>absurd h (by omega))),fun j hj=>?_⟩;rcases f2 j hj with h | h
 ·exact f1 j h
 ·exact .inr (Nat.le_trans k1.size h)
theorem bY.later {N:Nat} {w w1 w2:World} {p:Nat} {s:St} {b m:Nat} {x:Value} (h:bY N w p s b m x w1) (hb:Below w1.heap.size w1 w2):bY N w p s b m x w2:=by
 obtain ⟨x1,d1,k1,f1⟩:=h;exact ⟨x1,d1.later hb,k1.trans (Kept.bb (F:=fun _=>False) hb) (fun _ _ h=>h.elim),f1⟩
theorem bY.size {N:Nat} {w w1:World} {p:Nat} {s:St} {b m:Nat} {x:Value} (h:bY N w p s b m x w1):w.heap.size≤w1.heap.size:=by
 obtain ⟨x1,d1,k1,f1⟩:=h;exact k1.size
/- What isn't a block of a disk's types isn't of the disk. -/
theorem Dk.OE {s:St} (h:Dk N w p s b m x) {o:Nat} {cs:Array Value} {t:TypeId} {fz:Nat×Nat} (ho:w.heap[o]? =some (.cells cs t fz)) (h1:t≠81) (h2:t≠89):¬Fd p b m x o:=fun e=>by
 rcases e with rfl | rfl | rfl | e
 ·have q:=h.blk;rw [ho] at q;simp at q;exact h1 q.2.1
 ·obtain ⟨es,cl,hh⟩:=h.mb.isMap;rw [ho] at hh;cases hh
 ·obtain ⟨es,cl,hh⟩:=h.mm.isMap;rw [ho] at hh;cases hh
 ·rcases h.row.2 with ⟨h0,_⟩ | ⟨g,cap,cur,rfl,hb,Dh,rest⟩
  ·subst h0;cases e
  ·cases e
   rw [ho] at Dh;cases Dh;exact h2 rfl
theorem th (N:Nat) (w:World) (p:Nat) (s:St) (b m:Nat) (x:Value) (h:Dk N w p s b m x) (at':Int) (t:ByteArray) (h0:s.left≠0) (hg:Gp (at',t)) (hl:s.log.length+1≤5864062014805) (hN:N≤w.heap.size):
  Calls prog 77 #[.pointer (some ⟨p,0,none⟩),.int .i64 at',.string t] w fun e w'=>e=.returned (.bool (decide ((nx s at' t).left≠0)))∧bY N w p (nx s at' t) b m x w':=by
 have hg':=hg;obtain ⟨g1,g2,g3⟩:=hg;have hwr:=rE N w p s b m x h at' t (aas (by simp at g1;omega) (by simp at g2;omega)) (by simp at g3;omega) hl hN;rw [zJ h0 hg'] at hwr;obtain ⟨s',hs'⟩:∃s',nx s at' t=s':=⟨_,rfl⟩;rw [hs'] at hwr ⊢;obtain ⟨B,hB⟩:∃B,decide (s'.left≠0)=B:=⟨_,rfl⟩;have VB:Hid (decide (s'.left≠0)=B):=hB;rw [hB];clear h h0 hg' g1 g2 g3 hl hN hs' hB;go_enter func77,ntmps77;go_wp2_with fail
 refine hwr.mono ?_;rintro e w1 ⟨rfl,hW⟩;have HW:Hid (bY N w p s' b m x w1):=hW;obtain ⟨x1,d1,-,-⟩:=hW;have iF:=mL N w1 p s' b m x1 d1;rw [VB.out] at iF;clear hwr d1;go_wp2_with fail
 refine iF.mono ?_;rintro e w2 ⟨rfl,rfl⟩;go_wp2_with fail
 go_ret;exact ⟨rfl,HW.out⟩
theorem ME {l:List ByteArray} {k:Nat} (hk:k<l.length):pT (l.drop k) k=if (l.getD k ⟨#[]⟩).size=0 then pT (l.drop (k+1)) (k+1) else ((k:Int),⟨#[]⟩)::pT (l.drop (k+1)) (k+1):=by
 rw [List.drop_eq_getElem_cons hk,pT,←jE (d:=⟨#[]⟩) l k hk]
theorem Kb {t:ByteArray} (h:t.size=0):t.toList.isEmpty=true:=by rw [FJ h,ByteArray.toList_eq];rfl
theorem MH (N:Nat) (w:World) (p:Nat) (s:St) (b m:Nat) (x:Value) (h:Dk N w p s b m x) (a:Option Addr) (cap:Nat) (l:List ByteArray) (E:Nat) (fV:iC w a l) (hF:∀g o,a=some ⟨g,o,none⟩→¬Fd p b m x g) (h0:s.left≠0) (hl:l.length≤2048) (hE:E≤l.length) (dY:s.log.length+2048≤5864062014805) (hN:N≤w.heap.size):
  Calls prog 62 #[.pointer (some ⟨p,0,none⟩),.slice a l.length cap,.int .i64 (E:Int)] w fun e w'=>e=.returned (.bool (wl (pT (l.drop E) E) s).2)∧bY N w p (wl (pT (l.drop E) E) s).1 b m x w':=by
 have Ek:Hid (iC w a l):=fV;have HF:Hid (∀g o,a=some ⟨g,o,none⟩→¬Fd p b m x g):=hF;have HD:Hid (Dk N w p s b m x):=h;obtain ⟨R,hR⟩:∃R,wl (pT (l.drop E) E) s=R:=⟨_,rfl⟩;have HR:Hid (wl (pT (l.drop E) E) s=R):=hR;obtain ⟨n,hn⟩:∃n,l.length=n:=⟨_,rfl⟩;have iO:Hid (l.length=n):=hn;rw [hn] at hl hE ⊢;rw [hR];clear hn fV hF h hR;go_enter func62,ntmps62;go_wp2_with fail
 go_loopw [7] (fun i wr=>∃(k:Nat) (s':St),E≤k∧k≤n∧i=.int .i64 (k:Int)∧bY N w p s' b m x wr∧s'.left≠0∧wl (pT (l.drop k) k) s'=R∧s'.log.length≤s.log.length+k) (fun i _=>n - (intOf i).toNat)
 case atStart=>exact ⟨E,s,Nat.le_refl _,hE,rfl,HD.out.same,h0,HR.out,by omega⟩
 case round=>
  obtain ⟨k,s',mj,hk2,rfl,hW,hs0,Sb,uK⟩:=hrel;have HW:Hid (bY N w p s' b m x wr):=hW;have HWL:Hid (wl (pT (l.drop k) k) s'=R):=Sb;obtain ⟨x',d',kp,fp⟩:=hW;have hsz:=kp.size;by_cases cE:k<n
  ·obtain ⟨g,o,ea,c0⟩:=(Ek.out.kept kp HF.out) k (by rw [iO.out];exact cE);subst ea;have W_:Hid (pT (l.drop k) k=if (l.getD k ⟨#[]⟩).size=0 then pT (l.drop (k+1)) (k+1) else ((k:Int),⟨#[]⟩)::pT (l.drop (k+1)) (k+1)):=ME (by rw [iO.out];exact cE);have j1:(0:Int)≤(k:Int):=by omega
   have j2:(k:Int)<(n:Int):=by omega
   by_cases hX:(l.getD k ⟨#[]⟩).size=0
   ·have hst:=Kb hX
    have Ms:Hid (wl (pT (l.drop (k+1)) (k+1)) s'=R):=by
     show _=_
     rw [←HWL.out,W_.out,if_pos hX]
    obtain ⟨X,Wx⟩:∃X,l.getD k ⟨#[]⟩=X:=⟨_,rfl⟩;rw [Wx] at c0 hst;clear hX Wx Sb d' kp fp;go_wp2_with fail
    go_roundw
    case rel=>exact ⟨k+1,s',by omega,by omega,by go_num,HW.out,hs0,Ms.out,by omega⟩
    case measure=>simp [intOf];omega
   ·have hst:=OH hX;have hla:=th N wr p s' b m x' d' (k:Int) ⟨#[]⟩ hs0 ⟨by show (0:Int)≤(k:Int);omega,by show (k:Int)<2048;omega,by show (⟨#[]⟩:ByteArray).size≤32;decide⟩ (by omega) (Nat.le_trans hN hsz)
    have HC:Hid (wl (((k:Int),⟨#[]⟩)::pT (l.drop (k+1)) (k+1)) s'=R):=by
     show _=_
     rw [←HWL.out,W_.out,if_neg hX]
    have RY:Hid ((nx s' (k:Int) ⟨#[]⟩).log.length≤s'.log.length+1):=FE _ _ _;have HTR:Hid (∀w3,bY N wr p (nx s' (k:Int) ⟨#[]⟩) b m x' w3→bY N w p (nx s' (k:Int) ⟨#[]⟩) b m x w3):=fun w3 h3=>bY.next kp fp h3
    obtain ⟨X,Wx⟩:∃X,l.getD k ⟨#[]⟩=X:=⟨_,rfl⟩;rw [Wx] at c0 hst;obtain ⟨s2,hs2⟩:∃s2,nx s' (k:Int) ⟨#[]⟩=s2:=⟨_,rfl⟩;have eW:Hid (nx s' (k:Int) ⟨#[]⟩=s2):=hs2;rw [hs2] at hla HTR RY;clear hX Wx Sb d' kp fp hs2;go_wp2_with fail
    refine hla.mono ?_;rintro e w3 ⟨rfl,hW3⟩;have L1:Hid (bY N w p s2 b m x w3):=HTR.out w3 hW3;clear hla hW3;by_cases hz:s2.left=0
    ·have hb:decide (s2.left≠0)=false:=by simp [hz]
     have HE:Hid (R=(s2,false)):=by
      show _=_
      rw [←HC.out,EL (by rw [eW.out];exact hz),eW.out]
     rw [hb];clear hz hb;go_wp2_with fail
     go_ret;rw [HE.out];exact ⟨rfl,L1.out⟩
    ·have hb:decide (s2.left≠0)=true:=by simp [hz]
     have HE:Hid (wl (pT (l.drop (k+1)) (k+1)) s2=R):=by
      show _=_
      rw [←HC.out,Hi (by rw [eW.out];exact hz),eW.out]
     rw [hb];clear hb;go_wp2_with fail
     go_roundw
     case rel=>exact ⟨k+1,s2,by omega,by omega,by go_num,L1.out,hz,HE.out,by have:=RY.out;omega⟩
     case measure=>simp [intOf];omega
  ·have i2:decide ((k:Int)<(n:Int))=false:=by simp;omega
   have HE:Hid (R=(s',true)):=by
    show _=_
    rw [←HWL.out,List.drop_eq_nil_of_le (by rw [iO.out];omega),pT,wl]
   clear Sb d' kp;go_wp2_with fail
   go_ret;rw [HE.out];exact ⟨rfl,HW.out⟩
def Jn (w:World) (j p c a:Nat) (d:Bool):Prop:=w.heap[j]? =some (.cells #[.pointer (some ⟨p,0,none⟩),.int .i64 (c:Int),.int .i64 (a:Int),.bool d] 160)
theorem ym.txs {w:World} {N:Nat} {a:Option Addr} {n cap:Nat} {l:List ByteArray} (h:ym w N (.slice a n cap) l):Z2 w.heap.size w a cap l:=by
 have h':=h;rcases h.2 with ⟨h0,h1⟩ | ⟨g,cap',cur,h0,hb,Dh,hle,rest⟩
 ·cases h0
  exact .inl ⟨rfl,rfl,List.length_eq_zero_iff.1 h1⟩
 ·cases h0
  refine .inr ⟨g,0,rfl,(Array.getElem?_eq_some_iff.1 Dh).1,hle,fun i hi=>ym.rd h' i hi⟩
def W7 (N:Nat) (w:World) (p:Nat) (s:St) (b m:Nat) (x:Value) (e:Ending) (w':World):Prop:=
 bY N w p (xY s) b m x w'∧((yT s=false∧e=.returned (.tuple #[.pointer none,.slice none 0 0,.int .i64 11]))∨
  (yT s=true∧∃j v,e=.returned (.tuple #[.pointer (some ⟨j,0,none⟩),v,.int .i64 0])∧w.heap.size≤j∧Jn w' j p (zZ s).length (BI s) false∧ym w' w.heap.size v (zZ s)))
theorem Oq (N:Nat) (w:World) (p:Nat) (s:St) (b m:Nat) (x:Value) (h:Dk N w p s b m x) (dY:s.log.length+2048≤5864062014805) (hN:N≤w.heap.size):
  Calls prog 32 #[.pointer (some ⟨p,0,none⟩)] w fun e w'=>W7 N w p s b m x e w':=by
 have iF:=mL N w p s b m x h;have HD:Hid (Dk N w p s b m x):=h;by_cases h0:s.left=0
 ·have hb:decide (s.left≠0)=false:=by simp [h0]
  rw [hb] at iF
  have HO:Hid (W7 N w p s b m x (.returned (.tuple #[.pointer none,.slice none 0 0,.int .i64 11])) w):=by
   refine ⟨?_,.inl ⟨by unfold yT;rw [if_pos h0],rfl⟩⟩;unfold xY;rw [if_pos h0];exact h.same
  clear h h0 hb;go_enter func32,ntmps32;go_wp2_with fail
  refine iF.mono ?_;rintro e w1 ⟨rfl,rfl⟩;go_wp2_with fail
  refine bodyPost_ret (v:=.tuple #[.pointer none,.slice none 0 0,.int .i64 11]) (by simp [results,results32,go_sem]) rfl ?_;exact HO.out
 ·have hb:decide (s.left≠0)=true:=by simp [h0]
  rw [hb] at iF;have him:=Le N w p s b m x h (by omega);have hIH:=h.kB
  have HS:Hid (xY s=(wl (yS s) s).1∧yT s=(wl (yS s) s).2):=by
   show _∧_
   unfold xY yT;rw [if_neg h0,if_neg h0];exact ⟨rfl,rfl⟩
  have abr:(im s.bl).length≤2048:=by rw [sB];exact zS _
  have HIH:Hid (∀k,Fd p b m x k→k<w.heap.size∧N≤k):=hIH;obtain ⟨L,hL⟩:∃L,im s.bl=L:=⟨_,rfl⟩
  have HSC:Hid (zZ s=(sc 65535 L 1).1∧BI s=(sc 65535 L 1).2):=by
   show _∧_
   unfold zZ BI;rw [hL];exact ⟨rfl,rfl⟩
  have HOW:Hid (yS s=pT (L.drop (sc 65535 L 1).2) (sc 65535 L 1).2):=by
   show _=_
   unfold yS BI;rw [hL]
  have ac0:=(zY 65535 L 1).2.1;rw [hL] at him abr;clear h hL hb hIH;go_enter func32,ntmps32;go_wp2_with fail
  refine iF.mono ?_;rintro e w0 ⟨rfl,rfl⟩;go_wp2_with fail
  refine him.mono ?_;rintro e w1 ⟨v1,rfl,hr1,hb1⟩;obtain ⟨a1,aS,e1⟩:=eF hr1;subst e1;have L4:Hid (ym w1 w0.heap.size (.slice a1 L.length aS) L):=hr1;have dV:Hid (Below w0.heap.size w0 w1):=hb1;have BZ:Hid (Dk N w1 p s b m x):=HD.out.later hb1;have hsc:=Nq a1 aS L w1 (by omega) hr1.txs;have hwi:=fun W (hW:Below w1.heap.size w1 W)=>MH N W p s b m x (BZ.out.later hW) a1 aS L (sc 65535 L 1).2 (iC.later (ym.rd hr1) hW) (fun g o ea hF=>by have:=(b9 hr1 g o ea).1;have:=(HIH.out g hF).1;omega) h0 abr ac0 dY (Nat.le_trans hN (Nat.le_trans hb1.size hW.size))
  obtain ⟨n,hn⟩:∃n,L.length=n:=⟨_,rfl⟩;rw [hn] at hsc hwi ⊢;clear hr1 hb1 him hn;go_wp2_with fail
  refine hsc.mono ?_;rintro e w2 ⟨⟨v2,rfl,hr2⟩,hb2⟩;obtain ⟨a2,dc,e2⟩:=eF hr2;subst e2;have El:Hid (ym w2 w1.heap.size (.slice a2 (sc 65535 L 1).1.length dc) (sc 65535 L 1).1):=hr2;have bm:Hid (Below w0.heap.size w0 w2):=dV.out.trans (hb2.mono dV.out.size);have Ud:=hwi w2 hb2;obtain ⟨R,hR⟩:∃R,wl (pT (L.drop (sc 65535 L 1).2) (sc 65535 L 1).2) s=R:=⟨_,rfl⟩;have zC:Hid (wl (yS s) s=R):=by show _=_;rw [HOW.out];exact hR
  rw [hR] at Ud;obtain ⟨E,hE⟩:∃E,(sc 65535 L 1).2=E:=⟨_,rfl⟩;obtain ⟨P,hP⟩:∃P,(sc 65535 L 1).1=P:=⟨_,rfl⟩;have aaa:Hid (zZ s=P∧BI s=E):=by show _∧_;rw [HSC.out.1,HSC.out.2];exact ⟨hP,hE⟩
  rw [hE] at Ud ⊢;rw [hP] at El ⊢;have hs1:=dV.out.size;clear hwi hsc hr2 hb2 hR hE hP;obtain ⟨c,hc⟩:∃c,P.length=c:=⟨_,rfl⟩;have HC:Hid (P.length=c):=hc;rw [hc] at El ⊢;clear hc;go_wp2_with fail
  refine Ud.mono ?_;rintro e w3 ⟨rfl,hW3⟩
  have L1:Hid (bY N w0 p R.1 b m x w3):=by
   obtain ⟨x3,d3,k3,f3⟩:=hW3;exact ⟨x3,d3,(Kept.bb (F:=Fd p b m x) bm.out).trans k3 (fun i _ h=>h),fun k hk=>(f3 k hk).elim .inl (fun h=>.inr (Nat.le_trans bm.out.size h))⟩
  have HP3:Hid (ym w3 w0.heap.size (.slice a2 c dc) P):=by
   obtain ⟨x3,d3,k3,f3⟩:=hW3
   have hr:w3.ownsRow w1.heap.size 9 1 (.slice a2 c dc) P.length (bW P):=k3.row El.out (fun k hv hF=>by
    have:=(El.out.lt k hv).1;have:=(HIH.out k hF).1
    omega)
   exact ⟨hr.1,hr.2.elim .inl fun ⟨g,cap,cur,z1,z2,rest⟩=>.inr ⟨g,cap,cur,z1,Nat.le_trans hs1 z2,rest⟩⟩
  have hs3:=L1.out.size;clear Ud hW3;obtain ⟨s3,B3⟩:=R;dsimp only at L1 ⊢
  cases B3 with
  | false=>
   go_wp2_with fail
   refine bodyPost_ret (v:=.tuple #[.pointer none,.slice none 0 0,.int .i64 11]) (by simp [results,results32,go_sem]) rfl ?_;refine ⟨?_,.inl ⟨by rw [HS.out.2,zC.out],rfl⟩⟩;rw [HS.out.1,zC.out];exact L1.out
  | true=>
   go_wp2_with fail
   refine bodyPost_ret (v:=.tuple #[.pointer (some ⟨w3.heap.size,0,none⟩),.slice a2 c dc,.int .i64 0]) (by simp [results,results32,go_sem]) rfl ?_;refine ⟨?_,.inr ⟨by rw [HS.out.2,zC.out],_,_,rfl,hs3,?_,?_⟩⟩
   ·rw [HS.out.1,zC.out];exact L1.out.later (aX _ _)
   ·unfold Jn;rw [aaa.out.1,aaa.out.2,HC.out];exact World.alloc_heap_new _ _
   ·rw [aaa.out.1];exact aQ HP3.out (aX _ _)
variable {N a b c j m p:Nat} {s:St} {x:Value} {w w':World} {d:Bool}
section
variable {w w':World} {j p c a:Nat} {d:Bool}
theorem Jn.c0 (h:Jn w j p c a d):w.cell? ⟨j,0,none⟩=some (.pointer (some ⟨p,0,none⟩)):=by unfold Jn at h;simp [World.cell?,h]
theorem Jn.c1 (h:Jn w j p c a d):w.cell? ⟨j,1,none⟩=some (.int .i64 (c:Int)):=by unfold Jn at h;simp [World.cell?,h]
theorem Jn.c2 (h:Jn w j p c a d):w.cell? ⟨j,2,none⟩=some (.int .i64 (a:Int)):=by unfold Jn at h;simp [World.cell?,h]
theorem Jn.c3 (h:Jn w j p c a d):w.cell? ⟨j,3,none⟩=some (.bool d):=by unfold Jn at h;simp [World.cell?,h]
theorem Jn.fr (h:Jn w j p c a d) (i:Nat):w.frozen? ⟨j,i,none⟩=false:=by unfold Jn at h;simp [World.frozen?,h]
theorem Jn.lt (h:Jn w j p c a d):j<w.heap.size:=(Array.getElem?_eq_some_iff.1 h).1
theorem Jn.kept (h:Jn w j p c a d) {F:Nat→Prop} (hk:Kept F w w') (hF:¬F j):Jn w' j p c a d:=(hk.block j h.lt hF).trans h
theorem Jn.later (h:Jn w j p c a d) (hb:Below w.heap.size w w'):Jn w' j p c a d:=(hb.block j h.lt).trans h
theorem Jn.dead (h:Jn w j p c a d) (v:Bool):Jn (w.setCell ⟨j,3,none⟩ (.bool v)) j p c a v:=by
 unfold Jn at h ⊢;rw [jc h];rfl
theorem Jn.count (h:Jn w j p c a d) (n:Nat):Jn (w.setCell ⟨j,1,none⟩ (.int .i64 (n:Int))) j p n a d:=by
 unfold Jn at h ⊢;rw [jc h];rfl
theorem Jn.adq (h:Jn w j p c a d) (n:Nat):Jn (w.setCell ⟨j,2,none⟩ (.int .i64 (n:Int))) j p c n d:=by
 unfold Jn at h ⊢;rw [jc h];rfl
theorem Jn.out (h:Jn w j p c a d) {q:Nat} (hd:Dk N w q s b m x):¬Fd q b m x j:=hd.OE h (by decide) (by decide)
end
def JF (j p b m:Nat) (x:Value) (k:Nat):Prop:=k=j∨Fd p b m x k
/- Both behind a call: the journal, its disk. -/
def fc (N:Nat) (w:World) (j p:Nat) (s:St) (b m:Nat) (x:Value) (c a:Nat) (d:Bool) (w':World):Prop:=
 ∃x',Dk N w' p s b m x'∧Jn w' j p c a d∧Kept (JF j p b m x) w w'∧(∀k,Fd p b m x' k→Fd p b m x k∨w.heap.size≤k)
theorem fc.of (hj:Jn w' j p c a d) (h:bY N w p s b m x w'):fc N w j p s b m x c a d w':=by
 obtain ⟨x1,d1,k1,f1⟩:=h;exact ⟨x1,d1,hj,k1.mono (fun i _ h=>.inr h),f1⟩
/- A cell of the journal is set. -/
theorem fc.set (h:fc N w j p s b m x c a d w') (i:Nat) (v:Value) {c' a':Nat} {d':Bool} (hj:Jn (w'.setCell ⟨j,i,none⟩ v) j p c' a' d'):fc N w j p s b m x c' a' d' (w'.setCell ⟨j,i,none⟩ v):=by
 obtain ⟨x1,d1,j1,k1,f1⟩:=h;refine ⟨x1,d1.kept ((Kept.refl (fun k=>k=j) w').setCell (p:=⟨j,i,none⟩) (fun _=>rfl) v) (fun k hk e=>?_),hj,k1.setCell (p:=⟨j,i,none⟩) (fun _=>.inl rfl) v,f1⟩;subst e;exact j1.out d1 hk
def pS (N:Nat) (w:World) (j p:Nat) (s:St) (b m:Nat) (x:Value) (c a:Nat) (d:Bool) (t:ByteArray) (e:Ending) (w':World):Prop:=
 e=.returned (.int .i64 (mf s c a d t))∧fc N w j p (ml s c a d t) b m x (tU s c a d t) (tV s c a d t) (tS s c a d t) w'
theorem D8 (N:Nat) (w:World) (j p:Nat) (s:St) (b m:Nat) (x:Value) (c a:Nat) (d:Bool) (t:ByteArray) (h:Dk N w p s b m x) (hj:Jn w j p c a d) (h0:d=true∨s.left=0):
  Calls prog 38 #[.pointer (some ⟨j,0,none⟩),.string t] w fun e w'=>pS N w j p s b m x c a d t e w':=by
 have hE:mf s c a d t=11:=by unfold mf;rw [if_pos h0]
 have HP:Hid (∀e,e=.returned (.int .i64 11)→pS N w j p s b m x c a d t e (w.setCell ⟨j,3,none⟩ (.bool true))):=fun e he=>by
  have hS:ml s c a d t=s:=by unfold ml;rw [if_pos h0]
  unfold pS tU tV tS;rw [hE,hS,if_neg (by decide),if_neg (by decide),if_pos rfl];exact ⟨he,(fc.of hj h.same).set 3 (.bool true) (hj.dead true)⟩
 have c0:=hj.c0;have c3:=hj.c3;have f3:=hj.fr 3
 cases d with
 | true=>
  clear h hj h0 hE;go_enter func38,ntmps38;go_wp2_with fail
  go_ret;exact HP.out _ rfl
 | false=>
  have hz:s.left=0:=by simpa using h0
  have iF:=mL N w p s b m x h;have hb:decide (s.left≠0)=false:=by simp [hz]
  rw [hb] at iF;clear h hj h0 hE hz hb;go_enter func38,ntmps38;go_wp2_with fail
  refine iF.mono ?_;rintro e w1 ⟨rfl,rfl⟩;go_wp2_with fail
  go_ret;exact HP.out _ rfl
theorem D5 (N:Nat) (w:World) (j p:Nat) (s:St) (b m:Nat) (x:Value) (c a:Nat) (d:Bool) (t:ByteArray) (h:Dk N w p s b m x) (hj:Jn w j p c a d) (h0:¬(d=true∨s.left=0)) (ht:t.size≤9223372036854775807) (hl:5865<t.size):
  Calls prog 38 #[.pointer (some ⟨j,0,none⟩),.string t] w fun e w'=>pS N w j p s b m x c a d t e w':=by
 have HP:Hid (∀e,e=.returned (.int .i64 9)→pS N w j p s b m x c a d t e w):=fun e he=>by
  have hE:mf s c a d t=9:=by unfold mf;rw [if_neg h0,if_pos hl]
  have hS:ml s c a d t=s:=by unfold ml;rw [if_neg h0,if_pos hl]
  unfold pS tU tV tS;rw [hE,hS,if_neg (by decide),if_neg (by decide),if_neg (by decide)];exact ⟨he,fc.of hj h.same⟩
 have c0:=hj.c0;have c3:=hj.c3;have iF:=mL N w p s b m x h;obtain rfl:d=false:=by cases d with | true=>exact absurd (.inl rfl) h0 | false=>rfl
 have hb:decide (s.left≠0)=true:=by simpa using h0
 rw [hb] at iF;have Px:=og (t.size:Int) (by omega) (by omega) w;rw [aaK t.size (by omega)] at Px;clear h hj h0 hb hl;go_enter func38,ntmps38;go_wp2_with fail
 refine iF.mono ?_;rintro e w1 ⟨rfl,rfl⟩;go_wp2_with fail
 refine Px.mono ?_;rintro e w2 ⟨rfl,rfl⟩;go_wp2_with fail
 go_ret;exact HP.out _ rfl
theorem D7 (N:Nat) (w:World) (j p:Nat) (s:St) (b m:Nat) (x:Value) (c a:Nat) (d:Bool) (t:ByteArray) (h:Dk N w p s b m x) (hj:Jn w j p c a d) (h0:¬(d=true∨s.left=0)) (hl:¬5865<t.size) (ha:a≤2048) (hf:2048<a+np t.size∨65535≤c):
  Calls prog 38 #[.pointer (some ⟨j,0,none⟩),.string t] w fun e w'=>pS N w j p s b m x c a d t e w':=by
 have HP:Hid (∀e,e=.returned (.int .i64 10)→pS N w j p s b m x c a d t e w):=fun e he=>by
  have hE:mf s c a d t=10:=by unfold mf;rw [if_neg h0,if_neg hl,if_pos hf]
  have hS:ml s c a d t=s:=by unfold ml;rw [if_neg h0,if_neg hl,if_pos hf]
  unfold pS tU tV tS;rw [hE,hS,if_neg (by decide),if_neg (by decide),if_neg (by decide)];exact ⟨he,fc.of hj h.same⟩
 have c0:=hj.c0;have c1:=hj.c1;have c2:=hj.c2;have c3:=hj.c3;have iF:=mL N w p s b m x h;obtain rfl:d=false:=by cases d with | true=>exact absurd (.inl rfl) h0 | false=>rfl
 have hb:decide (s.left≠0)=true:=by simpa using h0
 rw [hb] at iF;have Px:=og (t.size:Int) (by omega) (by omega) w;obtain ⟨n1,n2,n3,-,-⟩:=cY t.size (by omega);rw [n1] at Px;obtain ⟨n,hn⟩:∃n,np t.size=n:=⟨_,rfl⟩;rw [hn] at Px n2 n3 hf;have m0:((n:Int)==0)=false:=by simp;omega
 have m1:IntKind.i64.wrap ((a:Int)+(n:Int))=((a+n:Nat):Int):=by rw [←Int.natCast_add];exact Bt.bu _ (by omega) (by omega)
 clear h hj h0 hb hl n1 hn;go_enter func38,ntmps38;go_wp2_with fail
 refine iF.mono ?_;rintro e w1 ⟨rfl,rfl⟩;go_wp2_with fail
 refine Px.mono ?_;rintro e w2 ⟨rfl,rfl⟩;by_cases h1:2048<a+n
 ·have m2:decide (2048<((a+n:Nat):Int))=true:=by simp;omega
  obtain ⟨an,UC⟩:∃an,((a+n:Nat):Int)=an:=⟨_,rfl⟩;rw [UC] at m1 m2;clear hf UC h1;go_wp2_with fail
  go_ret;exact HP.out _ rfl
 ·have m2:decide (2048<((a+n:Nat):Int))=false:=by simp;omega
  have m3:decide (65535≤(c:Int))=true:=by simp;omega
  obtain ⟨an,UC⟩:∃an,((a+n:Nat):Int)=an:=⟨_,rfl⟩;rw [UC] at m1 m2;clear hf UC h1;go_wp2_with fail
  go_ret;exact HP.out _ rfl
theorem N5 {l:List ByteArray} {a k:Nat} (hk:k<l.length):ov (l.drop k) (a+k)=(((a+k:Nat):Int),l.getD k ⟨#[]⟩)::ov (l.drop (k+1)) (a+(k+1)):=by
 rw [List.drop_eq_getElem_cons hk,ov,←jE (d:=⟨#[]⟩) l k hk,Nat.add_assoc]
theorem bY.first {N:Nat} {w w1 w2:World} {p:Nat} {s:St} {b m:Nat} {x:Value} (hb:Below w.heap.size w w1) (h:bY N w1 p s b m x w2):bY N w p s b m x w2:=by
 obtain ⟨x3,d3,k3,f3⟩:=h;exact ⟨x3,d3,(Kept.bb (F:=Fd p b m x) hb).trans k3 (fun i _ h=>h),fun k hk=>(f3 k hk).elim .inl (fun h=>.inr (Nat.le_trans hb.size h))⟩
theorem ZX {s:St} {c a:Nat} {d:Bool} {t:ByteArray} (h0:¬(d=true∨s.left=0)) (hl:¬5865<t.size) (hf:¬(2048<a+np t.size∨65535≤c)):ml s c a d t=(wl (Bu c a t) s).1∧mf s c a d t=if (wl (Bu c a t) s).2=true then 0 else 11:=by
 unfold mf ml;rw [if_neg h0,if_neg hl,if_neg hf,if_neg h0,if_neg hl,if_neg hf];exact ⟨rfl,rfl⟩
theorem LY (N:Nat) (w:World) (j p:Nat) (s:St) (b m:Nat) (x:Value) (c a:Nat) (d:Bool) (t:ByteArray) (h:Dk N w p s b m x) (hj:Jn w j p c a d) (h0:¬(d=true∨s.left=0)) (hl:¬5865<t.size) (hf:¬(2048<a+np t.size∨65535≤c)) (dY:s.log.length+255≤5864062014805) (hN:N≤w.heap.size):
  Calls prog 38 #[.pointer (some ⟨j,0,none⟩),.string t] w fun e w'=>pS N w j p s b m x c a d t e w':=by
 obtain ⟨hS,hE⟩:=ZX h0 hl hf;have HD:Hid (Dk N w p s b m x):=h;have HJ:Hid (Jn w j p c a d):=hj;have HIH:Hid (∀k,Fd p b m x k→k<w.heap.size∧N≤k):=h.kB;have abz:=lf (Aq (c:=c) (by omega)) (t:=t) (by omega);have acd:Hid (∀y∈eO ((c+1:Nat):Int) t,y.size=32):=abz;have Wu:=hj.out h;have HJO:Hid (¬Fd p b m x j):=Wu;have c0:=hj.c0;have c1:=hj.c1;have c2:=hj.c2;have c3:=hj.c3;have iF:=mL N w p s b m x h;obtain rfl:d=false:=by cases d with | true=>exact absurd (.inl rfl) h0 | false=>rfl
 have hs0:s.left≠0:=by simpa using h0
 have hb:decide (s.left≠0)=true:=by simpa using h0
 rw [hb] at iF;have Px:=og (t.size:Int) (by omega) (by omega) w;obtain ⟨n1,n2,n3,-,-⟩:=cY t.size (by omega);rw [n1] at Px;have BJ:=vX ((c+1:Nat):Int) t w (Aq (by omega)) (by omega);obtain ⟨R,hR⟩:∃R,wl (Bu c a t) s=R:=⟨_,rfl⟩;have HR:Hid (wl (ov (eO ((c+1:Nat):Int) t) a) s=R):=hR
 have G_:Hid (∀w',R.2=true→fc N w j p R.1 b m x (c+1) (a+np t.size) false w'→pS N w j p s b m x c a false t (.returned (.int .i64 0)) w'):=fun w' h2 hw=>by
  have hE':mf s c a false t=0:=by rw [hE,hR,if_pos h2]
  unfold pS tU tV tS;rw [hE',if_pos rfl,if_pos rfl,if_neg (by decide),hS,hR];exact ⟨rfl,hw⟩
 have jV:Hid (∀w',R.2=false→fc N w j p R.1 b m x c a true w'→pS N w j p s b m x c a false t (.returned (.int .i64 11)) w'):=fun w' h2 hw=>by
  have hE':mf s c a false t=11:=by rw [hE,hR,if_neg (by rw [h2];decide)]
  unfold pS tU tV tS;rw [hE',if_neg (by decide),if_neg (by decide),if_pos rfl,hS,hR];exact ⟨rfl,hw⟩
 have VA:Hid ((eO ((c+1:Nat):Int) t).length=np t.size):=ba _ _;obtain ⟨n,hn⟩:∃n,np t.size=n:=⟨_,rfl⟩;obtain ⟨B,hB⟩:∃B,eO ((c+1:Nat):Int) t=B:=⟨_,rfl⟩;rw [hn] at Px n2 n3 hf G_ VA;rw [hB] at BJ HR acd VA;have m0:((n:Int)==0)=false:=by simp;omega
 have m1:IntKind.i64.wrap ((a:Int)+(n:Int))=((a+n:Nat):Int):=by rw [←Int.natCast_add];exact Bt.bu _ (by omega) (by omega)
 have m2:decide (2048<((a+n:Nat):Int))=false:=by simp;omega
 have m3:decide (65535≤(c:Int))=false:=by simp;omega
 have m4:IntKind.i64.wrap ((c:Int)+1)=((c+1:Nat):Int):=by rw [Bt.bu _ (by omega) (by omega)];omega
 have HAN:Hid (a+n≤2048):=by show _≤_;omega
 obtain ⟨an,UC⟩:∃an,((a+n:Nat):Int)=an:=⟨_,rfl⟩;obtain ⟨cn,f_⟩:∃cn,((c+1:Nat):Int)=cn:=⟨_,rfl⟩;have HAE:Hid (((a+n:Nat):Int)=an):=UC;have HCE:Hid (((c+1:Nat):Int)=cn):=f_;rw [UC] at m1 m2;rw [f_] at m4 BJ;clear h hj h0 hb hl hf n1 hn hB hS hE hR abz Wu UC f_;go_enter func38,ntmps38;go_wp2_with fail
 refine iF.mono ?_;rintro e w1 ⟨rfl,rfl⟩;go_wp2_with fail
 refine Px.mono ?_;rintro e w2 ⟨rfl,rfl⟩;go_wp2_with fail
 refine BJ.mono ?_;rintro e w3 ⟨v3,rfl,hr3,hb3⟩;have Ui:ym w3 w2.heap.size v3 B:=hr3;obtain ⟨a3,jb,e3⟩:=eF Ui;subst e3;have Ek:Hid (iC w3 a3 B):=ym.rd Ui
 have adD:Hid (∀g o,a3=some ⟨g,o,none⟩→¬Fd p b m x g):=fun g o ea hF=>by
  have:=(b9 Ui g o ea).1;have:=(HIH.out g hF).1;omega
 have HD3:Hid (Dk N w3 p s b m x):=HD.out.later hb3;have HJ3:Hid (Jn w3 j p c a false):=HJ.out.later hb3;have dR:Hid (Below w2.heap.size w2 w3):=hb3;have hs3:=hb3.size;rw [VA.out];clear hr3 Ui hb3 BJ Px iF c0 c1 c2 c3;go_wp2_with fail
 go_loopw [56] (fun i wr=>∃(k:Nat) (s':St),k≤n∧i=.int .i64 (k:Int)∧bY N w3 p s' b m x wr∧s'.left≠0∧wl (ov (B.drop k) (a+k)) s'=R∧s'.log.length≤s.log.length+k) (fun i _=>n - (intOf i).toNat)
 case atStart=>exact ⟨0,s,by omega,rfl,HD3.out.same,hs0,HR.out,by omega⟩
 case round=>
  obtain ⟨k,s',hk2,rfl,hW,ac1,Sb,uK⟩:=hrel;have HW:Hid (bY N w3 p s' b m x wr):=hW;have HWL:Hid (wl (ov (B.drop k) (a+k)) s'=R):=Sb;obtain ⟨x',d',kp,fp⟩:=hW;have hsz:=kp.size;have Ut:=HJ3.out.kept kp HJO.out;have HJR:Hid (Jn wr j p c a false):=Ut;have c0:=Ut.c0;have c1:=Ut.c1;have c2:=Ut.c2;have f1:=Ut.fr 1;have f2:=Ut.fr 2;have f3:=Ut.fr 3;by_cases cE:k<n
  ·obtain ⟨g,o,ea,cX⟩:=(Ek.out.kept kp adD.out) k (by rw [VA.out];exact cE);subst ea;have HPC:Hid (ov (B.drop k) (a+k)=(((a+k:Nat):Int),B.getD k ⟨#[]⟩)::ov (B.drop (k+1)) (a+(k+1))):=N5 (by rw [VA.out];exact cE);have j1:(0:Int)≤(k:Int):=by omega
   have j2:(k:Int)<(n:Int):=by omega
   have j3:IntKind.i64.wrap ((a:Int)+(k:Int))=((a+k:Nat):Int):=by rw [←Int.natCast_add];exact Bt.bu _ (by have:=HAN.out;omega) (by have:=HAN.out;omega)
   have YX:(B.getD k ⟨#[]⟩).size≤32:=by
    rw [acd.out _ (by rw [jE _ _ (by rw [VA.out];exact cE)];exact List.getElem_mem _)];decide
   obtain ⟨X,Wx⟩:∃X,B.getD k ⟨#[]⟩=X:=⟨_,rfl⟩;rw [Wx] at cX YX HPC;obtain ⟨ak,hak⟩:∃ak,((a+k:Nat):Int)=ak:=⟨_,rfl⟩;have hla:=fun W (hW:Below wr.heap.size wr W)=>th N W p s' b m x' (d'.later hW) ak X ac1 ⟨by show (0:Int)≤ak;omega,by show ak<2048;have:=HAN.out;omega,YX⟩ (by omega) (Nat.le_trans hN (Nat.le_trans hs3 (Nat.le_trans hsz hW.size)))
   rw [hak] at j3 HPC;obtain ⟨s2,hs2⟩:∃s2,nx s' ak X=s2:=⟨_,rfl⟩;have RY:Hid ((nx s' ak X).log.length≤s'.log.length+1):=FE _ _ _
   have HC:Hid (wl ((ak,X)::ov (B.drop (k+1)) (a+(k+1))) s'=R):=by
    show _=_
    rw [←HWL.out,HPC.out]
   have eW:Hid (nx s' ak X=s2):=hs2;rw [hs2] at RY
   have PI:∀W,Below wr.heap.size wr W→Calls prog 77 #[.pointer (some ⟨p,0,none⟩),.int .i64 ak,.string X] W fun e w'=>e=.returned (.bool (decide (s2.left≠0)))∧bY N w3 p s2 b m x w'∧Jn w' j p c a false:=fun W hW=>(hla W hW).mono fun e w' h9=>by
    rw [hs2] at h9;have hW9:=bY.next (kp.trans (Kept.bb (F:=fun _=>False) hW) (fun _ _ h=>h.elim)) (fun i hi=>fp i hi) h9.2;obtain ⟨x9,d9,k9,f9⟩:=hW9;exact ⟨h9.1,⟨x9,d9,k9,f9⟩,HJ3.out.kept k9 HJO.out⟩
   clear Wx Sb d' kp fp hs2 hla Ut YX hak;by_cases hz:s2.left=0
   ·have hb:decide (s2.left≠0)=false:=by simp [hz]
    have HE:Hid (R=(s2,false)):=by
     show _=_
     rw [←HC.out,EL (by rw [eW.out];exact hz),eW.out]
    rw [hb] at PI;clear hz hb;go_wp2_with fail
    go_region_held3 (fun w'=>w'.cell? ⟨j,0,none⟩=some (.pointer (some ⟨p,0,none⟩))∧w'.cell? ⟨j,2,none⟩=some (.int .i64 (a:Int))) (first | exact ⟨Sp.c0,Sp.c2⟩ | exact ⟨c0,c2⟩) (first | (go_at_call 77;refine (PI _ (Below.drew (Below.refl _ wr))).mono ?_;rintro e w4 ⟨rfl,YY,Sp⟩))
    have HW4:Hid (bY N w3 p s2 b m x w4):=YY;have HJ4:Hid (Jn w4 j p c a false):=Sp;have c34:=Sp.c3;have f34:=Sp.fr 3;clear YY Sp PI;go_wp2_with fail
    go_ret;refine jV.out _ (by rw [HE.out]) ?_;rw [HE.out];exact (fc.of HJ4.out (bY.first dR.out HW4.out)).set 3 (.bool true) (HJ4.out.dead true)
   ·have hb:decide (s2.left≠0)=true:=by simp [hz]
    have HE:Hid (wl (ov (B.drop (k+1)) (a+(k+1))) s2=R):=by
     show _=_
     rw [←HC.out,Hi (by rw [eW.out];exact hz),eW.out]
    rw [hb] at PI;clear hb;go_wp2_with fail
    go_region_held3 (fun w'=>w'.cell? ⟨j,0,none⟩=some (.pointer (some ⟨p,0,none⟩))∧w'.cell? ⟨j,2,none⟩=some (.int .i64 (a:Int))) (first | exact ⟨Sp.c0,Sp.c2⟩ | exact ⟨c0,c2⟩) (first | (go_at_call 77;refine (PI _ (Below.drew (Below.refl _ wr))).mono ?_;rintro e w4 ⟨rfl,YY,Sp⟩))
    go_wp2_with fail
    go_roundw
    case rel=>exact ⟨k+1,s2,by omega,by go_num,YY,hz,HE.out,by have:=RY.out;omega⟩
    case measure=>simp [intOf];omega
  ·have i2:decide ((k:Int)<(n:Int))=false:=by simp;omega
   have HE:Hid (R=(s',true)):=by
    show _=_
    rw [←HWL.out,List.drop_eq_nil_of_le (by rw [VA.out];omega),ov,wl]
   clear Sb d' kp fp Ut;go_wp2_with fail
   go_ret;refine G_.out _ (by rw [HE.out]) ?_;rw [HE.out,←HCE.out,←HAE.out];exact ((fc.of HJR.out (bY.first dR.out HW.out)).set 1 (.int .i64 ((c+1:Nat):Int)) (HJR.out.count (c+1))).set 2 (.int .i64 ((a+n:Nat):Int)) ((HJR.out.count (c+1)).adq (a+n))
theorem G6 (N:Nat) (w:World) (j p:Nat) (s:St) (b m:Nat) (x:Value) (c a:Nat) (d:Bool) (t:ByteArray) (h:Dk N w p s b m x) (hj:Jn w j p c a d) (ha:a≤2048) (ht:t.size≤9223372036854775807) (dY:s.log.length+255≤5864062014805) (hN:N≤w.heap.size):
  Calls prog 38 #[.pointer (some ⟨j,0,none⟩),.string t] w fun e w'=>pS N w j p s b m x c a d t e w':=by
 by_cases h0:d=true∨s.left=0
 ·exact D8 N w j p s b m x c a d t h hj h0
 ·by_cases hl:5865<t.size
  ·exact D5 N w j p s b m x c a d t h hj h0 ht hl
  ·by_cases hf:2048<a+np t.size∨65535≤c
   ·exact D7 N w j p s b m x c a d t h hj h0 hl ha hf
   ·exact LY N w j p s b m x c a d t h hj h0 hl hf dY hN
variable {N a b c j m p:Nat} {w w' w0:World} {s s':St} {x:Value} {dd:Bool}
theorem Bq {a b c:World} {F:Nat→Prop} (h:Below N a b) (k:Kept F b c) (hF:∀i,F i→N≤i) (hN:N≤b.heap.size):Below N a c:=
 ⟨k.os.trans h.os,k.tape.trans h.tape,k.output.trans h.output,Nat.le_trans h.size k.size,fun i hi=>(k.block i (by omega) (fun e=>absurd (hF i e) (by omega))).trans (h.block i hi)⟩
/- A disk and a journal that are going on: what lies below N stays. -/
structure ib (N:Nat) (w0 w:World) (p:Nat) (s:St):Prop where
 ex:∃b m x,Dk N w p s b m x
 below:Below N w0 w
 size:N≤w.heap.size
theorem ib.later {N:Nat} {w0 w w':World} {p:Nat} {s:St} (h:ib N w0 w p s) (hb:Below w.heap.size w w'):ib N w0 w' p s:=by
 obtain ⟨⟨b,m,x,d⟩,h1,h2⟩:=h;exact ⟨⟨b,m,x,d.later hb⟩,h1.trans (hb.mono h2),Nat.le_trans h2 hb.size⟩
theorem ib.wrote (h:ib N w0 w p s) (hd:Dk N w p s b m x) (hw:bY N w p s' b m x w'):ib N w0 w' p s':=by
 obtain ⟨x1,d1,k1,f1⟩:=hw;exact ⟨⟨b,m,x1,d1⟩,Bq h.below k1 (fun i hi=>(hd.kB i hi).2) h.size,Nat.le_trans h.size k1.size⟩
theorem Wb {q:Nat} (hd:Dk N w p s b m x) (hw:bY N w p s' b m x w') (hj:Jn w j q c a dd):Jn w' j q c a dd:=by
 obtain ⟨x1,d1,k1,f1⟩:=hw;exact hj.kept k1 (hj.out hd)
/- The same for an Append. -/
theorem ib.Yw (h:ib N w0 w p s) (hd:Dk N w p s b m x) (hj:N≤j) (hw:fc N w j p s' b m x c a dd w'):ib N w0 w' p s'∧Jn w' j p c a dd:=by
 obtain ⟨x1,d1,j1,k1,f1⟩:=hw;refine ⟨⟨⟨b,m,x1,d1⟩,Bq h.below k1 (fun i hi=>?_) h.size,Nat.le_trans h.size k1.size⟩,j1⟩;rcases hi with rfl | hi
 ·exact hj
 ·exact (hd.kB i hi).2
theorem Av (w:World):Calls prog 5 #[] w fun e w'=>∃p,e=.returned (.pointer (some ⟨p,0,none⟩))∧ib w.heap.size w w' p nu:=by
 refine (qo w).mono ?_;rintro e w' ⟨p,b,m,x,rfl,hd,hb⟩;exact ⟨p,rfl,⟨b,m,x,hd⟩,hb,hb.size⟩
end Go.Proofs.YtanaapfobpgibaaGreatDoor.Jr.Dk
