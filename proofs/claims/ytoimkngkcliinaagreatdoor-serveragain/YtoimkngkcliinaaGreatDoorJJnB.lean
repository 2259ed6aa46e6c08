/- JnB, JnC, JnC2, JnL, JnK, joined. -/
import Derived.Test.YtoimkngkcliinaaGreatDoorJJnO
import Derived.Deep.RegionHeld3
import Derived.Test.YtoimkngkcliinaaGreatDoorJDkC
import Derived.Deep.DeepCutAuto
namespace Go.Proofs.YtoimkngkcliinaaGreatDoor.Jr.Dk
open Go.RowKit Go.Maps
set_option linter.unusedVariables false
set_option maxRecDepth 4000
set_option linter.unusedSimpArgs false
def Jn (w:World) (j p c a:Nat) (d:Bool):Prop:=w.heap[j]? =some (.cells #[.pointer (some ⟨p,0,none⟩),.int .i64 (c:Int),.int .i64 (a:Int),.bool d] 251)
theorem RwS.txs {w:World} {N:Nat} {a:Option Addr} {n cap:Nat} {l:List ByteArray} (h:RwS w N (.slice a n cap) l):Txs w.heap.size w a cap l:=by
 have h':=h;rcases h.2 with ⟨h0,h1⟩ | ⟨g,cap',cur,h0,hb,hgg,hle,rest⟩
 ·cases h0
  exact .inl ⟨rfl,rfl,List.length_eq_zero_iff.1 h1⟩
 ·cases h0
  refine .inr ⟨g,0,rfl,(Array.getElem?_eq_some_iff.1 hgg).1,hle,fun i hi=>RwS.rd h' i hi⟩
def OpenP (N:Nat) (w:World) (p:Nat) (s:St) (b m:Nat) (x:Value) (e:Ending) (w':World):Prop:=
 Wrote N w p (opS s) b m x w'∧((opB s=false∧e=.returned (.tuple #[.pointer none,.slice none 0 0,.int .i64 11]))∨
  (opB s=true∧∃j v,e=.returned (.tuple #[.pointer (some ⟨j,0,none⟩),v,.int .i64 0])∧w.heap.size≤j∧Jn w' j p (scP s).length (scE s) false∧RwS w' w.heap.size v (scP s)))
set_option maxHeartbeats 2000000 in
theorem open_any (N:Nat) (w:World) (p:Nat) (s:St) (b m:Nat) (x:Value) (h:Dk N w p s b m x) (hlog:s.log.length+2048≤5864062014805) (hN:N≤w.heap.size):
  Calls Tryz.prog 81 #[.pointer (some ⟨p,0,none⟩)] w fun e w'=>OpenP N w p s b m x e w':=by
 have hon:=on_any N w p s b m x h;have HD:Hid (Dk N w p s b m x):=h;by_cases h0:s.left=0
 ·have hb:decide (s.left≠0)=false:=by simp [h0]
  rw [hb] at hon
  have HO:Hid (OpenP N w p s b m x (.returned (.tuple #[.pointer none,.slice none 0 0,.int .i64 11])) w):=by
   refine ⟨?_,.inl ⟨by unfold opB;rw [if_pos h0],rfl⟩⟩;unfold opS;rw [if_pos h0];exact h.same
  clear h h0 hb;go_enter Tryz.func81,Tryz.ntmps81;go_wp2_with fail
  refine hon.mono ?_;rintro e w1 ⟨rfl,rfl⟩;go_wp2_with fail
  refine bodyPost_ret (v:=.tuple #[.pointer none,.slice none 0 0,.int .i64 11]) (by simp [results,Tryz.results81,go_sem]) rfl ?_;exact HO.out
 ·have hb:decide (s.left≠0)=true:=by simp [h0]
  rw [hb] at hon;have him:=image_any N w p s b m x h (by omega);have hIH:=h.inHeap
  have HS:Hid (opS s=(wl (opw s) s).1∧opB s=(wl (opw s) s).2):=by
   show _∧_
   unfold opS opB;rw [if_neg h0,if_neg h0];exact ⟨rfl,rfl⟩
  have hTop:(im s.bl).length≤2048:=by rw [im_length];exact top_le _
  have HIH:Hid (∀k,Fd p b m x k→k<w.heap.size∧N≤k):=hIH;obtain ⟨L,hL⟩:∃L,im s.bl=L:=⟨_,rfl⟩
  have HSC:Hid (scP s=(sc 65535 L 1).1∧scE s=(sc 65535 L 1).2):=by
   show _∧_
   unfold scP scE;rw [hL];exact ⟨rfl,rfl⟩
  have HOW:Hid (opw s=wps (L.drop (sc 65535 L 1).2) (sc 65535 L 1).2):=by
   show _=_
   unfold opw scE;rw [hL]
  have hscl:=(sc_len 65535 L 1).2.1;rw [hL] at him hTop;clear h hL hb hIH;go_enter Tryz.func81,Tryz.ntmps81;go_wp2_with fail
  refine hon.mono ?_;rintro e w0 ⟨rfl,rfl⟩;go_wp2_with fail
  refine him.mono ?_;rintro e w1 ⟨v1,rfl,hr1,hb1⟩;obtain ⟨a1,cap1,e1⟩:=row_spell hr1;subst e1;have HR1:Hid (RwS w1 w0.heap.size (.slice a1 L.length cap1) L):=hr1;have HB1:Hid (Below w0.heap.size w0 w1):=hb1;have HD1:Hid (Dk N w1 p s b m x):=HD.out.later hb1;have hsc:=scan_any a1 cap1 L w1 (by omega) hr1.txs;have hwi:=fun W (hW:Below w1.heap.size w1 W)=>wipe_any N W p s b m x (HD1.out.later hW) a1 cap1 L (sc 65535 L 1).2 (RdS.later (RwS.rd hr1) hW) (fun g o ea hF=>by have:=(row_far hr1 g o ea).1;have:=(HIH.out g hF).1;omega) h0 hTop hscl hlog (Nat.le_trans hN (Nat.le_trans hb1.size hW.size))
  obtain ⟨n,hn⟩:∃n,L.length=n:=⟨_,rfl⟩;rw [hn] at hsc hwi ⊢;clear hr1 hb1 him hn;go_wp2_with fail
  refine hsc.mono ?_;rintro e w2 ⟨⟨v2,rfl,hr2⟩,hb2⟩;obtain ⟨a2,cap2,e2⟩:=row_spell hr2;subst e2;have HR2:Hid (RwS w2 w1.heap.size (.slice a2 (sc 65535 L 1).1.length cap2) (sc 65535 L 1).1):=hr2;have HB2:Hid (Below w0.heap.size w0 w2):=HB1.out.trans (hb2.mono HB1.out.size);have hwi2:=hwi w2 hb2;obtain ⟨R,hR⟩:∃R,wl (wps (L.drop (sc 65535 L 1).2) (sc 65535 L 1).2) s=R:=⟨_,rfl⟩;have HRR:Hid (wl (opw s) s=R):=by show _=_;rw [HOW.out];exact hR
  rw [hR] at hwi2;obtain ⟨E,hE⟩:∃E,(sc 65535 L 1).2=E:=⟨_,rfl⟩;obtain ⟨P,hP⟩:∃P,(sc 65535 L 1).1=P:=⟨_,rfl⟩;have HSC2:Hid (scP s=P∧scE s=E):=by show _∧_;rw [HSC.out.1,HSC.out.2];exact ⟨hP,hE⟩
  rw [hE] at hwi2 ⊢;rw [hP] at HR2 ⊢;have hs1:=HB1.out.size;clear hwi hsc hr2 hb2 hR hE hP;obtain ⟨c,hc⟩:∃c,P.length=c:=⟨_,rfl⟩;have HC:Hid (P.length=c):=hc;rw [hc] at HR2 ⊢;clear hc;go_wp2_with fail
  refine hwi2.mono ?_;rintro e w3 ⟨rfl,hW3⟩
  have HW3:Hid (Wrote N w0 p R.1 b m x w3):=by
   obtain ⟨x3,d3,k3,f3⟩:=hW3;exact ⟨x3,d3,(Kept.ofBelow (F:=Fd p b m x) HB2.out).trans k3 (fun i _ h=>h),fun k hk=>(f3 k hk).elim .inl (fun h=>.inr (Nat.le_trans HB2.out.size h))⟩
  have HP3:Hid (RwS w3 w0.heap.size (.slice a2 c cap2) P):=by
   obtain ⟨x3,d3,k3,f3⟩:=hW3
   have hr:w3.ownsRow w1.heap.size 9 1 (.slice a2 c cap2) P.length (cellsS P):=k3.row HR2.out (fun k hv hF=>by
    have:=(HR2.out.lt k hv).1;have:=(HIH.out k hF).1
    omega)
   exact ⟨hr.1,hr.2.elim .inl fun ⟨g,cap,cur,z1,z2,rest⟩=>.inr ⟨g,cap,cur,z1,Nat.le_trans hs1 z2,rest⟩⟩
  have hs3:=HW3.out.size;clear hwi2 hW3;obtain ⟨s3,B3⟩:=R;dsimp only at HW3 ⊢
  cases B3 with
  | false=>
   go_wp2_with fail
   refine bodyPost_ret (v:=.tuple #[.pointer none,.slice none 0 0,.int .i64 11]) (by simp [results,Tryz.results81,go_sem]) rfl ?_;refine ⟨?_,.inl ⟨by rw [HS.out.2,HRR.out],rfl⟩⟩;rw [HS.out.1,HRR.out];exact HW3.out
  | true=>
   go_wp2_with fail
   refine bodyPost_ret (v:=.tuple #[.pointer (some ⟨w3.heap.size,0,none⟩),.slice a2 c cap2,.int .i64 0]) (by simp [results,Tryz.results81,go_sem]) rfl ?_;refine ⟨?_,.inr ⟨by rw [HS.out.2,HRR.out],_,_,rfl,hs3,?_,?_⟩⟩
   ·rw [HS.out.1,HRR.out];exact HW3.out.later (below1 _ _)
   ·unfold Jn;rw [HSC2.out.1,HSC2.out.2,HC.out];exact World.alloc_heap_new _ _
   ·rw [HSC2.out.1];exact row_later HP3.out (below1 _ _)
section
variable {w w':World} {j p c a:Nat} {d:Bool}
theorem Jn.c0 (h:Jn w j p c a d):w.cell? ⟨j,0,none⟩=some (.pointer (some ⟨p,0,none⟩)):=by unfold Jn at h;simp [World.cell?,h]
theorem Jn.c1 (h:Jn w j p c a d):w.cell? ⟨j,1,none⟩=some (.int .i64 (c:Int)):=by unfold Jn at h;simp [World.cell?,h]
theorem Jn.c2 (h:Jn w j p c a d):w.cell? ⟨j,2,none⟩=some (.int .i64 (a:Int)):=by unfold Jn at h;simp [World.cell?,h]
theorem Jn.c3 (h:Jn w j p c a d):w.cell? ⟨j,3,none⟩=some (.bool d):=by unfold Jn at h;simp [World.cell?,h]
theorem Jn.fr (h:Jn w j p c a d) (i:Nat):w.frozen? ⟨j,i,none⟩=false:=by unfold Jn at h;simp [World.frozen?,h]
theorem Jn.lt (h:Jn w j p c a d):j<w.heap.size:=(Array.getElem?_eq_some_iff.1 h).1
theorem Jn.kept (h:Jn w j p c a d) {F:Nat→Prop} (hk:Kept F w w') (hF:¬F j):Jn w' j p c a d:=(hk.block j h.lt hF).trans h
theorem Jn.later (h:Jn w j p c a d) (hb:Below w.heap.size w w'):Jn w' j p c a d:=(hb.block j h.lt).trans h
theorem Jn.dead (h:Jn w j p c a d) (v:Bool):Jn (w.setCell ⟨j,3,none⟩ (.bool v)) j p c a v:=by
 unfold Jn at h ⊢;rw [blk_set h];rfl
theorem Jn.count (h:Jn w j p c a d) (n:Nat):Jn (w.setCell ⟨j,1,none⟩ (.int .i64 (n:Int))) j p n a d:=by
 unfold Jn at h ⊢;rw [blk_set h];rfl
theorem Jn.endd (h:Jn w j p c a d) (n:Nat):Jn (w.setCell ⟨j,2,none⟩ (.int .i64 (n:Int))) j p c n d:=by
 unfold Jn at h ⊢;rw [blk_set h];rfl
theorem Jn.out {N:Nat} {s:St} {b m:Nat} {x:Value} (h:Jn w j p c a d) {q:Nat} (hd:Dk N w q s b m x):¬Fd q b m x j:=hd.notT h (by decide) (by decide)
end
def JF (j p b m:Nat) (x:Value) (k:Nat):Prop:=k=j∨Fd p b m x k
/- Both behind a call: the journal, its disk. -/
def JWrote (N:Nat) (w:World) (j p:Nat) (s:St) (b m:Nat) (x:Value) (c a:Nat) (d:Bool) (w':World):Prop:=
 ∃x',Dk N w' p s b m x'∧Jn w' j p c a d∧Kept (JF j p b m x) w w'∧(∀k,Fd p b m x' k→Fd p b m x k∨w.heap.size≤k)
theorem JWrote.of {N:Nat} {w w':World} {j p:Nat} {s:St} {b m:Nat} {x:Value} {c a:Nat} {d:Bool} (hj:Jn w' j p c a d) (h:Wrote N w p s b m x w'):JWrote N w j p s b m x c a d w':=by
 obtain ⟨x1,d1,k1,f1⟩:=h;exact ⟨x1,d1,hj,k1.mono (fun i _ h=>.inr h),f1⟩
/- A cell of the journal is set. -/
theorem JWrote.set {N:Nat} {w w':World} {j p:Nat} {s:St} {b m:Nat} {x:Value} {c a:Nat} {d:Bool} (h:JWrote N w j p s b m x c a d w') (i:Nat) (v:Value) {c' a':Nat} {d':Bool} (hj:Jn (w'.setCell ⟨j,i,none⟩ v) j p c' a' d'):JWrote N w j p s b m x c' a' d' (w'.setCell ⟨j,i,none⟩ v):=by
 obtain ⟨x1,d1,j1,k1,f1⟩:=h;refine ⟨x1,d1.kept ((Kept.refl (fun k=>k=j) w').setCell (p:=⟨j,i,none⟩) (fun _=>rfl) v) (fun k hk e=>?_),hj,k1.setCell (p:=⟨j,i,none⟩) (fun _=>.inl rfl) v,f1⟩;subst e;exact j1.out d1 hk
def AppP (N:Nat) (w:World) (j p:Nat) (s:St) (b m:Nat) (x:Value) (c a:Nat) (d:Bool) (t:ByteArray) (e:Ending) (w':World):Prop:=
 e=.returned (.int .i64 (apE s c a d t))∧JWrote N w j p (apS s c a d t) b m x (apC s c a d t) (apA s c a d t) (apD s c a d t) w'
theorem append_down (N:Nat) (w:World) (j p:Nat) (s:St) (b m:Nat) (x:Value) (c a:Nat) (d:Bool) (t:ByteArray) (h:Dk N w p s b m x) (hj:Jn w j p c a d) (h0:d=true∨s.left=0):
  Calls Tryz.prog 86 #[.pointer (some ⟨j,0,none⟩),.string t] w fun e w'=>AppP N w j p s b m x c a d t e w':=by
 have hE:apE s c a d t=11:=by unfold apE;rw [if_pos h0]
 have HP:Hid (∀e,e=.returned (.int .i64 11)→AppP N w j p s b m x c a d t e (w.setCell ⟨j,3,none⟩ (.bool true))):=fun e he=>by
  have hS:apS s c a d t=s:=by unfold apS;rw [if_pos h0]
  unfold AppP apC apA apD;rw [hE,hS,if_neg (by decide),if_neg (by decide),if_pos rfl];exact ⟨he,(JWrote.of hj h.same).set 3 (.bool true) (hj.dead true)⟩
 have c0:=hj.c0;have c3:=hj.c3;have f3:=hj.fr 3
 cases d with
 | true=>
  clear h hj h0 hE;go_enter Tryz.func86,Tryz.ntmps86;go_wp2_with fail
  go_ret;exact HP.out _ rfl
 | false=>
  have hz:s.left=0:=by simpa using h0
  have hon:=on_any N w p s b m x h;have hb:decide (s.left≠0)=false:=by simp [hz]
  rw [hb] at hon;clear h hj h0 hE hz hb;go_enter Tryz.func86,Tryz.ntmps86;go_wp2_with fail
  refine hon.mono ?_;rintro e w1 ⟨rfl,rfl⟩;go_wp2_with fail
  go_ret;exact HP.out _ rfl
theorem append_long (N:Nat) (w:World) (j p:Nat) (s:St) (b m:Nat) (x:Value) (c a:Nat) (d:Bool) (t:ByteArray) (h:Dk N w p s b m x) (hj:Jn w j p c a d) (h0:¬(d=true∨s.left=0)) (ht:t.size≤9223372036854775807) (hl:5865<t.size):
  Calls Tryz.prog 86 #[.pointer (some ⟨j,0,none⟩),.string t] w fun e w'=>AppP N w j p s b m x c a d t e w':=by
 have HP:Hid (∀e,e=.returned (.int .i64 9)→AppP N w j p s b m x c a d t e w):=fun e he=>by
  have hE:apE s c a d t=9:=by unfold apE;rw [if_neg h0,if_pos hl]
  have hS:apS s c a d t=s:=by unfold apS;rw [if_neg h0,if_pos hl]
  unfold AppP apC apA apD;rw [hE,hS,if_neg (by decide),if_neg (by decide),if_neg (by decide)];exact ⟨he,JWrote.of hj h.same⟩
 have c0:=hj.c0;have c3:=hj.c3;have hon:=on_any N w p s b m x h;obtain rfl:d=false:=by cases d with | true=>exact absurd (.inl rfl) h0 | false=>rfl
 have hb:decide (s.left≠0)=true:=by simpa using h0
 rw [hb] at hon;have hpt:=parts_any (t.size:Int) (by omega) (by omega) w;rw [pt_no t.size (by omega)] at hpt;clear h hj h0 hb hl;go_enter Tryz.func86,Tryz.ntmps86;go_wp2_with fail
 refine hon.mono ?_;rintro e w1 ⟨rfl,rfl⟩;go_wp2_with fail
 refine hpt.mono ?_;rintro e w2 ⟨rfl,rfl⟩;go_wp2_with fail
 go_ret;exact HP.out _ rfl
theorem append_full (N:Nat) (w:World) (j p:Nat) (s:St) (b m:Nat) (x:Value) (c a:Nat) (d:Bool) (t:ByteArray) (h:Dk N w p s b m x) (hj:Jn w j p c a d) (h0:¬(d=true∨s.left=0)) (hl:¬5865<t.size) (ha:a≤2048) (hf:2048<a+np t.size∨65535≤c):
  Calls Tryz.prog 86 #[.pointer (some ⟨j,0,none⟩),.string t] w fun e w'=>AppP N w j p s b m x c a d t e w':=by
 have HP:Hid (∀e,e=.returned (.int .i64 10)→AppP N w j p s b m x c a d t e w):=fun e he=>by
  have hE:apE s c a d t=10:=by unfold apE;rw [if_neg h0,if_neg hl,if_pos hf]
  have hS:apS s c a d t=s:=by unfold apS;rw [if_neg h0,if_neg hl,if_pos hf]
  unfold AppP apC apA apD;rw [hE,hS,if_neg (by decide),if_neg (by decide),if_neg (by decide)];exact ⟨he,JWrote.of hj h.same⟩
 have c0:=hj.c0;have c1:=hj.c1;have c2:=hj.c2;have c3:=hj.c3;have hon:=on_any N w p s b m x h;obtain rfl:d=false:=by cases d with | true=>exact absurd (.inl rfl) h0 | false=>rfl
 have hb:decide (s.left≠0)=true:=by simpa using h0
 rw [hb] at hon;have hpt:=parts_any (t.size:Int) (by omega) (by omega) w;obtain ⟨n1,n2,n3,-,-⟩:=np_spec t.size (by omega);rw [n1] at hpt;obtain ⟨n,hn⟩:∃n,np t.size=n:=⟨_,rfl⟩;rw [hn] at hpt n2 n3 hf;have m0:((n:Int)==0)=false:=by simp;omega
 have m1:IntKind.i64.wrap ((a:Int)+(n:Int))=((a+n:Nat):Int):=by rw [←Int.natCast_add];exact Bt.wrap_fit _ (by omega) (by omega)
 clear h hj h0 hb hl n1 hn;go_enter Tryz.func86,Tryz.ntmps86;go_wp2_with fail
 refine hon.mono ?_;rintro e w1 ⟨rfl,rfl⟩;go_wp2_with fail
 refine hpt.mono ?_;rintro e w2 ⟨rfl,rfl⟩;by_cases h1:2048<a+n
 ·have m2:decide (2048<((a+n:Nat):Int))=true:=by simp;omega
  obtain ⟨an,han⟩:∃an,((a+n:Nat):Int)=an:=⟨_,rfl⟩;rw [han] at m1 m2;clear hf han h1;go_wp2_with fail
  go_ret;exact HP.out _ rfl
 ·have m2:decide (2048<((a+n:Nat):Int))=false:=by simp;omega
  have m3:decide (65535≤(c:Int))=true:=by simp;omega
  obtain ⟨an,han⟩:∃an,((a+n:Nat):Int)=an:=⟨_,rfl⟩;rw [han] at m1 m2;clear hf han h1;go_wp2_with fail
  go_ret;exact HP.out _ rfl
theorem plc_cons {l:List ByteArray} {a k:Nat} (hk:k<l.length):plc (l.drop k) (a+k)=(((a+k:Nat):Int),l.getD k ⟨#[]⟩)::plc (l.drop (k+1)) (a+(k+1)):=by
 rw [List.drop_eq_getElem_cons hk,plc,←getD_yes (d:=⟨#[]⟩) l k hk,Nat.add_assoc]
theorem Wrote.first {N:Nat} {w w1 w2:World} {p:Nat} {s:St} {b m:Nat} {x:Value} (hb:Below w.heap.size w w1) (h:Wrote N w1 p s b m x w2):Wrote N w p s b m x w2:=by
 obtain ⟨x3,d3,k3,f3⟩:=h;exact ⟨x3,d3,(Kept.ofBelow (F:=Fd p b m x) hb).trans k3 (fun i _ h=>h),fun k hk=>(f3 k hk).elim .inl (fun h=>.inr (Nat.le_trans hb.size h))⟩
theorem apE_go {s:St} {c a:Nat} {d:Bool} {t:ByteArray} (h0:¬(d=true∨s.left=0)) (hl:¬5865<t.size) (hf:¬(2048<a+np t.size∨65535≤c)):apS s c a d t=(wl (apW c a t) s).1∧apE s c a d t=if (wl (apW c a t) s).2=true then 0 else 11:=by
 unfold apE apS;rw [if_neg h0,if_neg hl,if_neg hf,if_neg h0,if_neg hl,if_neg hf];exact ⟨rfl,rfl⟩
set_option maxHeartbeats 4000000 in
theorem append_go (N:Nat) (w:World) (j p:Nat) (s:St) (b m:Nat) (x:Value) (c a:Nat) (d:Bool) (t:ByteArray) (h:Dk N w p s b m x) (hj:Jn w j p c a d) (h0:¬(d=true∨s.left=0)) (hl:¬5865<t.size) (hf:¬(2048<a+np t.size∨65535≤c)) (hlog:s.log.length+255≤5864062014805) (hN:N≤w.heap.size):
  Calls Tryz.prog 86 #[.pointer (some ⟨j,0,none⟩),.string t] w fun e w'=>AppP N w j p s b m x c a d t e w':=by
 obtain ⟨hS,hE⟩:=apE_go h0 hl hf;have HD:Hid (Dk N w p s b m x):=h;have HJ:Hid (Jn w j p c a d):=hj;have HIH:Hid (∀k,Fd p b m x k→k<w.heap.size∧N≤k):=h.inHeap;have hB32:=blks_size (num_ok (c:=c) (by omega)) (t:=t) (by omega);have HB32:Hid (∀y∈blks ((c+1:Nat):Int) t,y.size=32):=hB32;have hjout:=hj.out h;have HJO:Hid (¬Fd p b m x j):=hjout;have c0:=hj.c0;have c1:=hj.c1;have c2:=hj.c2;have c3:=hj.c3;have hon:=on_any N w p s b m x h;obtain rfl:d=false:=by cases d with | true=>exact absurd (.inl rfl) h0 | false=>rfl
 have hs0:s.left≠0:=by simpa using h0
 have hb:decide (s.left≠0)=true:=by simpa using h0
 rw [hb] at hon;have hpt:=parts_any (t.size:Int) (by omega) (by omega) w;obtain ⟨n1,n2,n3,-,-⟩:=np_spec t.size (by omega);rw [n1] at hpt;have hpk:=pack_yes ((c+1:Nat):Int) t w (num_ok (by omega)) (by omega);obtain ⟨R,hR⟩:∃R,wl (apW c a t) s=R:=⟨_,rfl⟩;have HR:Hid (wl (plc (blks ((c+1:Nat):Int) t) a) s=R):=hR
 have HYES:Hid (∀w',R.2=true→JWrote N w j p R.1 b m x (c+1) (a+np t.size) false w'→AppP N w j p s b m x c a false t (.returned (.int .i64 0)) w'):=fun w' h2 hw=>by
  have hE':apE s c a false t=0:=by rw [hE,hR,if_pos h2]
  unfold AppP apC apA apD;rw [hE',if_pos rfl,if_pos rfl,if_neg (by decide),hS,hR];exact ⟨rfl,hw⟩
 have HNO:Hid (∀w',R.2=false→JWrote N w j p R.1 b m x c a true w'→AppP N w j p s b m x c a false t (.returned (.int .i64 11)) w'):=fun w' h2 hw=>by
  have hE':apE s c a false t=11:=by rw [hE,hR,if_neg (by rw [h2];decide)]
  unfold AppP apC apA apD;rw [hE',if_neg (by decide),if_neg (by decide),if_pos rfl,hS,hR];exact ⟨rfl,hw⟩
 have HBL:Hid ((blks ((c+1:Nat):Int) t).length=np t.size):=blks_length _ _;obtain ⟨n,hn⟩:∃n,np t.size=n:=⟨_,rfl⟩;obtain ⟨B,hB⟩:∃B,blks ((c+1:Nat):Int) t=B:=⟨_,rfl⟩;rw [hn] at hpt n2 n3 hf HYES HBL;rw [hB] at hpk HR HB32 HBL;have m0:((n:Int)==0)=false:=by simp;omega
 have m1:IntKind.i64.wrap ((a:Int)+(n:Int))=((a+n:Nat):Int):=by rw [←Int.natCast_add];exact Bt.wrap_fit _ (by omega) (by omega)
 have m2:decide (2048<((a+n:Nat):Int))=false:=by simp;omega
 have m3:decide (65535≤(c:Int))=false:=by simp;omega
 have m4:IntKind.i64.wrap ((c:Int)+1)=((c+1:Nat):Int):=by rw [Bt.wrap_fit _ (by omega) (by omega)];omega
 have HAN:Hid (a+n≤2048):=by show _≤_;omega
 obtain ⟨an,han⟩:∃an,((a+n:Nat):Int)=an:=⟨_,rfl⟩;obtain ⟨cn,hcn⟩:∃cn,((c+1:Nat):Int)=cn:=⟨_,rfl⟩;have HAE:Hid (((a+n:Nat):Int)=an):=han;have HCE:Hid (((c+1:Nat):Int)=cn):=hcn;rw [han] at m1 m2;rw [hcn] at m4 hpk;clear h hj h0 hb hl hf n1 hn hB hS hE hR hB32 hjout han hcn;go_enter Tryz.func86,Tryz.ntmps86;go_wp2_with fail
 refine hon.mono ?_;rintro e w1 ⟨rfl,rfl⟩;go_wp2_with fail
 refine hpt.mono ?_;rintro e w2 ⟨rfl,rfl⟩;go_wp2_with fail
 refine hpk.mono ?_;rintro e w3 ⟨v3,rfl,hr3,hb3⟩;have hr3':RwS w3 w2.heap.size v3 B:=hr3;obtain ⟨a3,cap3,e3⟩:=row_spell hr3';subst e3;have HRD:Hid (RdS w3 a3 B):=RwS.rd hr3'
 have HFAR:Hid (∀g o,a3=some ⟨g,o,none⟩→¬Fd p b m x g):=fun g o ea hF=>by
  have:=(row_far hr3' g o ea).1;have:=(HIH.out g hF).1;omega
 have HD3:Hid (Dk N w3 p s b m x):=HD.out.later hb3;have HJ3:Hid (Jn w3 j p c a false):=HJ.out.later hb3;have HB3:Hid (Below w2.heap.size w2 w3):=hb3;have hs3:=hb3.size;rw [HBL.out];clear hr3 hr3' hb3 hpk hpt hon c0 c1 c2 c3;go_wp2_with fail
 go_loopw [56] (fun i wr=>∃(k:Nat) (s':St),k≤n∧i=.int .i64 (k:Int)∧Wrote N w3 p s' b m x wr∧s'.left≠0∧wl (plc (B.drop k) (a+k)) s'=R∧s'.log.length≤s.log.length+k) (fun i _=>n - (intOf i).toNat)
 case atStart=>exact ⟨0,s,by omega,rfl,HD3.out.same,hs0,HR.out,by omega⟩
 case round=>
  obtain ⟨k,s',hk2,rfl,hW,hs0',hwl,hlg⟩:=hrel;have HW:Hid (Wrote N w3 p s' b m x wr):=hW;have HWL:Hid (wl (plc (B.drop k) (a+k)) s'=R):=hwl;obtain ⟨x',d',kp,fp⟩:=hW;have hsz:=kp.size;have hjr:=HJ3.out.kept kp HJO.out;have HJR:Hid (Jn wr j p c a false):=hjr;have c0:=hjr.c0;have c1:=hjr.c1;have c2:=hjr.c2;have f1:=hjr.fr 1;have f2:=hjr.fr 2;have f3:=hjr.fr 3;by_cases hkn:k<n
  ·obtain ⟨g,o,ea,cX⟩:=(HRD.out.kept kp HFAR.out) k (by rw [HBL.out];exact hkn);subst ea;have HPC:Hid (plc (B.drop k) (a+k)=(((a+k:Nat):Int),B.getD k ⟨#[]⟩)::plc (B.drop (k+1)) (a+(k+1))):=plc_cons (by rw [HBL.out];exact hkn);have j1:(0:Int)≤(k:Int):=by omega
   have j2:(k:Int)<(n:Int):=by omega
   have j3:IntKind.i64.wrap ((a:Int)+(k:Int))=((a+k:Nat):Int):=by rw [←Int.natCast_add];exact Bt.wrap_fit _ (by have:=HAN.out;omega) (by have:=HAN.out;omega)
   have hX32:(B.getD k ⟨#[]⟩).size≤32:=by
    rw [HB32.out _ (by rw [getD_yes _ _ (by rw [HBL.out];exact hkn)];exact List.getElem_mem _)];decide
   obtain ⟨X,hXX⟩:∃X,B.getD k ⟨#[]⟩=X:=⟨_,rfl⟩;rw [hXX] at cX hX32 HPC;obtain ⟨ak,hak⟩:∃ak,((a+k:Nat):Int)=ak:=⟨_,rfl⟩;have hla:=fun W (hW:Below wr.heap.size wr W)=>lasting_any N W p s' b m x' (d'.later hW) ak X hs0' ⟨by show (0:Int)≤ak;omega,by show ak<2048;have:=HAN.out;omega,hX32⟩ (by omega) (Nat.le_trans hN (Nat.le_trans hs3 (Nat.le_trans hsz hW.size)))
   rw [hak] at j3 HPC;obtain ⟨s2,hs2⟩:∃s2,nx s' ak X=s2:=⟨_,rfl⟩;have HLG:Hid ((nx s' ak X).log.length≤s'.log.length+1):=nx_log _ _ _
   have HC:Hid (wl ((ak,X)::plc (B.drop (k+1)) (a+(k+1))) s'=R):=by
    show _=_
    rw [←HWL.out,HPC.out]
   have HS2:Hid (nx s' ak X=s2):=hs2;rw [hs2] at HLG
   have hla2:∀W,Below wr.heap.size wr W→Calls Tryz.prog 139 #[.pointer (some ⟨p,0,none⟩),.int .i64 ak,.string X] W fun e w'=>e=.returned (.bool (decide (s2.left≠0)))∧Wrote N w3 p s2 b m x w'∧Jn w' j p c a false:=fun W hW=>(hla W hW).mono fun e w' h9=>by
    rw [hs2] at h9;have hW9:=Wrote.next (kp.trans (Kept.ofBelow (F:=fun _=>False) hW) (fun _ _ h=>h.elim)) (fun i hi=>fp i hi) h9.2;obtain ⟨x9,d9,k9,f9⟩:=hW9;exact ⟨h9.1,⟨x9,d9,k9,f9⟩,HJ3.out.kept k9 HJO.out⟩
   clear hXX hwl d' kp fp hs2 hla hjr hX32 hak;by_cases hz:s2.left=0
   ·have hb:decide (s2.left≠0)=false:=by simp [hz]
    have HE:Hid (R=(s2,false)):=by
     show _=_
     rw [←HC.out,wl_off (by rw [HS2.out];exact hz),HS2.out]
    rw [hb] at hla2;clear hz hb;go_wp2_with fail
    go_region_held3 (fun w'=>w'.cell? ⟨j,0,none⟩=some (.pointer (some ⟨p,0,none⟩))∧w'.cell? ⟨j,2,none⟩=some (.int .i64 (a:Int))) (first | exact ⟨hj4.c0,hj4.c2⟩ | exact ⟨c0,c2⟩) (first | (go_at_call 139;refine (hla2 _ (Below.drew (Below.refl _ wr))).mono ?_;rintro e w4 ⟨rfl,hW4,hj4⟩))
    have HW4:Hid (Wrote N w3 p s2 b m x w4):=hW4;have HJ4:Hid (Jn w4 j p c a false):=hj4;have c34:=hj4.c3;have f34:=hj4.fr 3;clear hW4 hj4 hla2;go_wp2_with fail
    go_ret;refine HNO.out _ (by rw [HE.out]) ?_;rw [HE.out];exact (JWrote.of HJ4.out (Wrote.first HB3.out HW4.out)).set 3 (.bool true) (HJ4.out.dead true)
   ·have hb:decide (s2.left≠0)=true:=by simp [hz]
    have HE:Hid (wl (plc (B.drop (k+1)) (a+(k+1))) s2=R):=by
     show _=_
     rw [←HC.out,wl_on (by rw [HS2.out];exact hz),HS2.out]
    rw [hb] at hla2;clear hb;go_wp2_with fail
    go_region_held3 (fun w'=>w'.cell? ⟨j,0,none⟩=some (.pointer (some ⟨p,0,none⟩))∧w'.cell? ⟨j,2,none⟩=some (.int .i64 (a:Int))) (first | exact ⟨hj4.c0,hj4.c2⟩ | exact ⟨c0,c2⟩) (first | (go_at_call 139;refine (hla2 _ (Below.drew (Below.refl _ wr))).mono ?_;rintro e w4 ⟨rfl,hW4,hj4⟩))
    go_wp2_with fail
    go_roundw
    case rel=>exact ⟨k+1,s2,by omega,by go_num,hW4,hz,HE.out,by have:=HLG.out;omega⟩
    case measure=>simp [intOf];omega
  ·have i2:decide ((k:Int)<(n:Int))=false:=by simp;omega
   have HE:Hid (R=(s',true)):=by
    show _=_
    rw [←HWL.out,List.drop_eq_nil_of_le (by rw [HBL.out];omega),plc,wl]
   clear hwl d' kp fp hjr;go_wp2_with fail
   go_ret;refine HYES.out _ (by rw [HE.out]) ?_;rw [HE.out,←HCE.out,←HAE.out];exact ((JWrote.of HJR.out (Wrote.first HB3.out HW.out)).set 1 (.int .i64 ((c+1:Nat):Int)) (HJR.out.count (c+1))).set 2 (.int .i64 ((a+n:Nat):Int)) ((HJR.out.count (c+1)).endd (a+n))
theorem append_any (N:Nat) (w:World) (j p:Nat) (s:St) (b m:Nat) (x:Value) (c a:Nat) (d:Bool) (t:ByteArray) (h:Dk N w p s b m x) (hj:Jn w j p c a d) (ha:a≤2048) (ht:t.size≤9223372036854775807) (hlog:s.log.length+255≤5864062014805) (hN:N≤w.heap.size):
  Calls Tryz.prog 86 #[.pointer (some ⟨j,0,none⟩),.string t] w fun e w'=>AppP N w j p s b m x c a d t e w':=by
 by_cases h0:d=true∨s.left=0
 ·exact append_down N w j p s b m x c a d t h hj h0
 ·by_cases hl:5865<t.size
  ·exact append_long N w j p s b m x c a d t h hj h0 ht hl
  ·by_cases hf:2048<a+np t.size∨65535≤c
   ·exact append_full N w j p s b m x c a d t h hj h0 hl ha hf
   ·exact append_go N w j p s b m x c a d t h hj h0 hl hf hlog hN
theorem belowJ {a b c:World} {F:Nat→Prop} {N:Nat} (h:Below N a b) (k:Kept F b c) (hF:∀i,F i→N≤i) (hN:N≤b.heap.size):Below N a c:=
 ⟨k.os.trans h.os,k.tape.trans h.tape,k.output.trans h.output,Nat.le_trans h.size k.size,fun i hi=>(k.block i (by omega) (fun e=>absurd (hF i e) (by omega))).trans (h.block i hi)⟩
/- A disk and a journal that are going on: what lies below N stays. -/
structure Go1 (N:Nat) (w0 w:World) (p:Nat) (s:St):Prop where
 ex:∃b m x,Dk N w p s b m x
 below:Below N w0 w
 size:N≤w.heap.size
theorem Go1.later {N:Nat} {w0 w w':World} {p:Nat} {s:St} (h:Go1 N w0 w p s) (hb:Below w.heap.size w w'):Go1 N w0 w' p s:=by
 obtain ⟨⟨b,m,x,d⟩,h1,h2⟩:=h;exact ⟨⟨b,m,x,d.later hb⟩,h1.trans (hb.mono h2),Nat.le_trans h2 hb.size⟩
theorem Go1.wrote {N:Nat} {w0 w w':World} {p:Nat} {s s':St} {b m:Nat} {x:Value} (h:Go1 N w0 w p s) (hd:Dk N w p s b m x) (hw:Wrote N w p s' b m x w'):Go1 N w0 w' p s':=by
 obtain ⟨x1,d1,k1,f1⟩:=hw;exact ⟨⟨b,m,x1,d1⟩,belowJ h.below k1 (fun i hi=>(hd.inHeap i hi).2) h.size,Nat.le_trans h.size k1.size⟩
theorem keepJ {N:Nat} {w w':World} {j p q c a:Nat} {dd:Bool} {s s':St} {b m:Nat} {x:Value} (hd:Dk N w p s b m x) (hw:Wrote N w p s' b m x w') (hj:Jn w j q c a dd):Jn w' j q c a dd:=by
 obtain ⟨x1,d1,k1,f1⟩:=hw;exact hj.kept k1 (hj.out hd)
/- The same for an Append. -/
theorem Go1.jwrote {N:Nat} {w0 w w':World} {j p:Nat} {s s':St} {b m c a:Nat} {x:Value} {dd:Bool} (h:Go1 N w0 w p s) (hd:Dk N w p s b m x) (hj:N≤j) (hw:JWrote N w j p s' b m x c a dd w'):Go1 N w0 w' p s'∧Jn w' j p c a dd:=by
 obtain ⟨x1,d1,j1,k1,f1⟩:=hw;refine ⟨⟨⟨b,m,x1,d1⟩,belowJ h.below k1 (fun i hi=>?_) h.size,Nat.le_trans h.size k1.size⟩,j1⟩;rcases hi with rfl | hi
 ·exact hj
 ·exact (hd.inHeap i hi).2
theorem new_go (w:World):Calls Tryz.prog 11 #[] w fun e w'=>∃p,e=.returned (.pointer (some ⟨p,0,none⟩))∧Go1 w.heap.size w w' p nu:=by
 refine (new_any w).mono ?_;rintro e w' ⟨p,b,m,x,rfl,hd,hb⟩;exact ⟨p,rfl,⟨b,m,x,hd⟩,hb,hb.size⟩
def KeepT (w w':World):Prop:=∀(k:Nat) (cs:Array Value) (t:TypeId) (fz:Nat×Nat),w.heap[k]? =some (.cells cs t fz)→t≠132→t≠139→t≠251→w'.heap[k]? =some (.cells cs t fz)
theorem KeepT.ofBelow {w w':World} (h:Below w.heap.size w w'):KeepT w w':=fun k cs t fz e _ _ _=>(h.block k (Array.getElem?_eq_some_iff.1 e).1).trans e
theorem KeepT.trans {a b c:World} (h:KeepT a b) (g:KeepT b c):KeepT a c:=fun k cs t fz e h1 h2 h3=>g k cs t fz (h k cs t fz e h1 h2 h3) h1 h2 h3
theorem Wrote.keepT {N:Nat} {w w':World} {p:Nat} {s s':St} {b m:Nat} {x:Value} (hd:Dk N w p s b m x) (hw:Wrote N w p s' b m x w'):KeepT w w':=fun k cs t fz e h1 h2 h3=>by
 obtain ⟨x1,d1,k1,f1⟩:=hw;exact (k1.block k (Array.getElem?_eq_some_iff.1 e).1 (hd.notT e h1 h2)).trans e
theorem JWrote.keepT {N:Nat} {w w':World} {j p:Nat} {s s':St} {b m c a c0 a0:Nat} {x:Value} {dd d0:Bool} (hd:Dk N w p s b m x) (hj0:Jn w j p c0 a0 d0) (hw:JWrote N w j p s' b m x c a dd w'):KeepT w w':=fun k cs t fz e h1 h2 h3=>by
 obtain ⟨x1,d1,j1,k1,f1⟩:=hw;refine (k1.block k (Array.getElem?_eq_some_iff.1 e).1 (fun hF=>?_)).trans e;rcases hF with rfl | hF
 ·unfold Jn at hj0;rw [hj0] at e;cases e;exact h3 rfl
 ·exact hd.notT e h1 h2 hF
theorem append_k {N:Nat} {w0 w:World} {j p:Nat} {s:St} {c a:Nat} {d:Bool} (h:Go1 N w0 w p s) (hj:Jn w j p c a d) (hjN:N≤j) (t:ByteArray) (ha:a≤2048) (ht:t.size≤9223372036854775807) (hlog:s.log.length+255≤5864062014805):
  Calls Tryz.prog 86 #[.pointer (some ⟨j,0,none⟩),.string t] w fun e w'=>e=.returned (.int .i64 (apE s c a d t))∧Go1 N w0 w' p (apS s c a d t)∧Jn w' j p (apC s c a d t) (apA s c a d t) (apD s c a d t)∧KeepT w w':=by
 obtain ⟨⟨b,m,x,dd⟩,h1,h2⟩:=h;refine (append_any N w j p s b m x c a d t dd hj ha ht hlog h2).mono ?_;rintro e w' ⟨he,hw⟩;obtain ⟨g1,g2⟩:=Go1.jwrote ⟨⟨b,m,x,dd⟩,h1,h2⟩ dd hjN hw;exact ⟨he,g1,g2,hw.keepT dd hj⟩
theorem on_k {N:Nat} {w0 w:World} {p:Nat} {s:St} (h:Go1 N w0 w p s):Calls Tryz.prog 15 #[.pointer (some ⟨p,0,none⟩)] w fun e w'=>e=.returned (.bool (decide (s.left≠0)))∧w'=w:=by
 obtain ⟨⟨b,m,x,d⟩,g1,g2⟩:=h;exact on_any N w p s b m x d
theorem writes_k {N:Nat} {w0 w:World} {p:Nat} {s:St} (h:Go1 N w0 w p s) (hl:s.log.length≤5864062014805):Calls Tryz.prog 21 #[.pointer (some ⟨p,0,none⟩)] w fun e w'=>(∃a c,e=.returned (.slice a s.log.length c))∧Below w.heap.size w w':=by
 obtain ⟨⟨b,m,x,d⟩,g1,g2⟩:=h;refine (writes_any N w p s b m x d hl).mono ?_;rintro e w' ⟨v,rfl,hr,hb⟩;obtain ⟨a,c,rfl⟩:=row_spell hr;exact ⟨⟨a,c,rfl⟩,hb⟩
end Go.Proofs.YtoimkngkcliinaaGreatDoor.Jr.Dk
