/- RsH, RsI, RsMath4, RsJ, RsMath5, joined. -/
import Derived.Test.YtoimkngkcliinaaGreatDoorJRsD
import Derived.Test.YtoimkngkcliinaaGreatDoorJStF
namespace Go.Proofs.YtoimkngkcliinaaGreatDoor.Rs
open Go.RowKit Go.Maps
set_option linter.unusedVariables false
set_option linter.unusedSimpArgs false
/- What stands while a roster is written and seats are gathered. -/
structure EV (w W:World) (g:Nat→En) (v:Value) (l:List (Int×Int)):Prop where
 ro:RoAt W w.heap.size g
 ze:RoAt W (w.heap.size+1) (fun _=>zE)
 bel:Below w.heap.size w W
 row:W.ownsRow (w.heap.size+2) 165 2 v l.length (ps l)
theorem EV.size {w W:World} {g:Nat→En} {v:Value} {l:List (Int×Int)} (h:EV w W g v l):w.heap.size+2≤W.heap.size:=h.ze.lt
theorem EV.later {w W W':World} {g:Nat→En} {v:Value} {l:List (Int×Int)} (h:EV w W g v l) (hb:Below W.heap.size W W'):EV w W' g v l:=
 ⟨h.ro.later hb,h.ze.later hb,h.bel.trans (hb.mono h.bel.size),owns_later h.row hb⟩
theorem row_far {W:World} {b:Nat} {e:TypeId} {sz:Nat} {v:Value} {n:Nat} {xs:List Value} (h:W.ownsRow b e sz v n xs) {k:Nat} (hk:k<b):some k≠v.ownBlock:=by
 intro he;rcases h.2 with ⟨rfl,_⟩ | ⟨g,cap,cur,rfl,h3,_⟩
 ·simp [Value.ownBlock] at he
 ·simp [Value.ownBlock] at he;omega
theorem EV.app {w W W1:World} {g:Nat→En} {v v':Value} {l:List (Int×Int)} {o:Obj} {p:Int×Int} (h:EV w W g v l) (hown:W1.ownsRow (w.heap.size+2) 165 2 v' (l.length+1) (ps l++[.int .i64 p.1,.int .i64 p.2])) (hg:(W.alloc o).grownBy W1 v.ownBlock):EV w W1 g v' (l++[p]):=by
 have hs:=h.size
 have blk:∀k,k<w.heap.size+2→W1.heap[k]? =W.heap[k]? :=fun k hk=>by
  rw [hg.block k (by simp;omega) (row_far h.row hk)];exact ((Below.refl _ W).alloc (Nat.le_refl _) o).block k (by omega)
 refine ⟨(blk _ (by omega)).trans h.ro,(blk _ (by omega)).trans h.ze,?_,?_⟩
 ·have b1:=h.bel.alloc h.bel.size o
  exact below_grown b1 hg (by have:=h.bel.size;simp;omega) fun j hj=>by
   rcases Nat.lt_or_ge j (w.heap.size+2) with hlt | hge
   ·exact absurd hj.symm (row_far h.row hlt)
   ·omega
 ·rw [ps_snoc,List.length_append];exact hown
theorem EV.set {w W:World} {g:Nat→En} {v:Value} {l:List (Int×Int)} (h:EV w W g v l) (k:Nat) (hk:k<64) (a b c:Int):
  EV w (((W.setCell ⟨w.heap.size,k * 3,none⟩ (.int .i64 a)).setCell ⟨w.heap.size,k * 3+1,none⟩ (.int .i64 b)).setCell ⟨w.heap.size,k * 3+2,none⟩ (.int .i64 c)) (upd g k ⟨a,b,c⟩) v l:=
 ⟨h.ro.set3 k hk a b c,(set3_other (by omega) _ _ _ _ _ _).trans h.ze,set3_below h.bel (Nat.le_refl _) _ _ _ _ _ _,owns_block h.row fun j hj _=>set3_other (by omega) _ _ _ _ _ _⟩
theorem EV.new (w:World) (f:Nat→En):EV w ((w.alloc (.cells (rcs f) 52)).alloc (.cells (rcs fun _=>zE) 52)) f (.slice none 0 0) []:=by
 have b2:=alloc_ro (w.alloc (.cells (rcs f) 52)) (fun _=>zE);have h2:=RoAt.new (w.alloc (.cells (rcs f) 52)) (fun _=>zE);rw [World.size_alloc] at h2;exact ⟨(RoAt.new w f).later b2,h2,(alloc_ro w f).trans (b2.mono (by simp)),World.ownsRow_nil _ _ _ _⟩
theorem st25 {ops:Array Oper} {rest:List Oper} {o:Oper} {a:Act} {w:World} {Q:Exit→Act→World→Prop} {B:Nat} {f g:Nat→En} (h:RoAt w B f) (hgd:o.guard=none) (x y:Operand) (ho:o.op=.store 52 x y)
  (hx:a.eval x=.pointer (some ⟨B,0,none⟩)) (hy:a.eval y=.agg (rcs g)) (k:wpList Tryz.prog ops Q rest (a.put o.dst undef) (w.setRow B (rcs g))):wpList Tryz.prog ops Q (o::rest) a w:=
 wpList_store_row hgd 52 x y ho B (rcs g) hx hy 52 (rcs f) h (by rw [rcs_size];exact info25) (by rw [rcs_size,rcs_size]) (rcs_one g) k
theorem RoAt.row {w:World} {B:Nat} {f:Nat→En} (h:RoAt w B f) (g:Nat→En):RoAt (w.setRow B (rcs g)) B g:=heap_setRow_same h _
theorem row_other {w:World} {B C:Nat} (h:C≠B) (cs:Array Value):(w.setRow B cs).heap[C]? =w.heap[C]? :=by
 simp only [World.setRow,Array.getElem?_modify];rw [if_neg (fun e=>h e.symm)]
set_option maxRecDepth 100000 in
set_option maxHeartbeats 2000000 in
theorem evict_any (f:Nat→En) (a:Option Addr) (c:Nat) (L:List Int) (w:World) (lL:L.length≤4096) (hL:RdI w a L) (hon:∀k,k<L.length→on (evs f (L.take k)) (L.getD k 0)=true):
  Calls Tryz.prog 249 #[.agg (rcs f),.slice a L.length c] w fun e w'=>(∃v,e=.returned (.tuple #[.agg (rcs (evs f L)),v])∧w'.ownsRow (w.heap.size+2) 165 2 v L.length (ps (evl f L)))∧Below w.heap.size w w':=by
 have hE0:=EV.new w f;obtain ⟨i0,hi,hz0,hz1,hz2⟩:=infoSeat_parts;go_enter Tryz.func249,Tryz.ntmps249;go_upto_region 2 with (fail)
 rw [zero25];generalize (w.alloc (.cells (rcs f) 52)).alloc (.cells (rcs fun _=>zE) 52)=w1 at *;have HE0:Hid (EV w w1 f (.slice none 0 0) []):=hE0;clear hE0;obtain ⟨cf,hc⟩:∃cf,rcs f=cf:=⟨_,rfl⟩;rw [hc];clear hc;go_wp2_with fail
 go_loopw [6,12] (fun v i wx=>∃(k:Nat) (vl:Value),k≤L.length∧i=.int .i64 (k:Int)∧vl=v∧EV w wx (evs f (L.take k)) vl (evl f (L.take k))) (fun _ i _=>L.length - (intOf i).toNat)
 case atStart=>exact ⟨0,_,by omega,rfl,rfl,HE0.out⟩
 case round=>
  obtain ⟨k,vl,hk,rfl,rfl,hev⟩:=hrel;have HE:Hid (EV w wr (evs f (L.take k)) vl (evl f (L.take k))):=hev;clear hev HE0;by_cases hkN:k<L.length
  ·have i1:(0:Int)≤(k:Int):=by omega
   have i2:(k:Int)<(L.length:Int):=by omega
   obtain ⟨b,o,hal,hcell⟩:=(hL.later HE.out.bel) k hkN;have HT:Hid (L.take (k+1)=L.take k++[L.getD k 0]):=take_getD hkN;have hok:=hon k hkN;have hlen:(evl f (L.take k)).length=k:=by simp;omega
   obtain ⟨x,hx⟩:∃x,L.getD k 0=x:=⟨_,rfl⟩;rw [hx] at hcell HT hok;obtain ⟨g,hg⟩:∃g,evs f (L.take k)=g:=⟨_,rfl⟩;obtain ⟨l,hl⟩:∃l,evl f (L.take k)=l:=⟨_,rfl⟩;rw [hg,hl] at HE;rw [hg] at hok;rw [hl] at hlen;have HG:Hid (evs f (L.take k)=g):=hg;have HL:Hid (evl f (L.take k)=l):=hl;obtain ⟨j,hj,hj64⟩:=fnd_on hok;have hfi:=find_any g x;rw [hj] at hfi;have HJ:Hid (fnd g x=(j:Int)):=hj;clear hx hg hl hok hj hon;subst hal;obtain ⟨a1,cap1,rfl⟩:=owns_slice HE.out.row;rw [hlen];have HLEN:Hid (l.length=k):=hlen;clear hlen;go_upto_region 5 with (fail)
   refine wp_region_lit ?_;refine ld25 HE.out.ro rfl _ rfl rfl ?_;have hfi2:=hfi wr;obtain ⟨cg,hcg⟩:∃cg,rcs g=cg:=⟨_,rfl⟩;rw [hcg] at hfi2 ⊢;clear hcg hfi;go_wp2_with fail
   refine hfi2.mono ?_;rintro r w2 ⟨rfl,hb2⟩;have HE2:Hid (EV w w2 g (.slice a1 l.length cap1) l):=HE.out.later hb2;clear hfi2 hb2 HE;have hrow:w2.ownsRow (w.heap.size+2) 165 2 (.slice a1 k cap1) k (ps l):=by have h:=HE2.out.row;rw [HLEN.out] at h;exact h
   have hsz:=HE2.out.size;go_upto_region 7 with (at_builtin;(refine wpList_append_own _ rfl _ _ 75 rfl (w.heap.size+2) 165 i0 (.agg #[.int .i64 0,.int .i64 0]) 2 16 Tryz.underlying75 hi hz0 hz1 hz2 rfl (by decide) (.slice a1 k cap1) k (ps l) rfl (hrow.alloc _) ⟨w2.heap.size,0,none⟩ 1 1 [.int .i64 x,.int .i64 (j:Int)] rfl rfl (cell_two_new _ _ _ _) (by simp [Value.oneCell']) (by unfold maxLen;omega) (by omega) (by simp;omega) ?_);intro v' w3 hown' hg3 _)
   have HE3:Hid (EV w w3 g v' (l++[(x,(j:Int))])):=HE2.out.app (by rw [HLEN.out];exact hown') (by rw [HLEN.out];exact hg3);clear hown' hg3 hrow hsz HE2;have j1:(j:Int)<64:=by omega
   obtain ⟨c0,c1,c2⟩:=HE3.out.ro.cells j hj64;have f0:=row_frozen HE3.out.ro (j * 3);have f1:=row_frozen HE3.out.ro (j * 3+1);have f2:=row_frozen HE3.out.ro (j * 3+2);have HE4:Hid (EV w (((w3.setCell ⟨w.heap.size,j * 3,none⟩ (.int .i64 0)).setCell ⟨w.heap.size,j * 3+1,none⟩ (.int .i64 0)).setCell ⟨w.heap.size,j * 3+2,none⟩ (.int .i64 0)) (upd g j ⟨0,0,0⟩) v' (l++[(x,(j:Int))])):=HE3.out.set j hj64 0 0 0;go_wp2_with fail
   go_roundw
   case rel=>
    refine ⟨k+1,_,by omega,by go_num,rfl,?_⟩;have e1:evs f (L.take (k+1))=upd g j ⟨0,0,0⟩:=by rw [HT.out,evs_snoc,HG.out,ev1_on HJ.out];rfl
    have e2:evl f (L.take (k+1))=l++[(x,(j:Int))]:=by rw [HT.out,evl_snoc,HG.out,HL.out,HJ.out]
    rw [e1,e2];exact HE4.out
   case measure=>simp [intOf];omega
  ·obtain rfl:k=L.length:=by omega
   have hdk:decide ((L.length:Int)<(L.length:Int))=false:=by simp
   have HE1:Hid (EV w wr (evs f L) vl (evl f L)):=by have h:=HE.out;rw [List.take_length] at h;exact h
   clear HE hon;go_upto_region 9 with (fail)
   refine wp_region_lit ?_;refine ld25 HE1.out.ro rfl _ rfl rfl ?_;go_wp2_with (refine st25 HE1.out.ze rfl _ _ rfl rfl rfl ?_)
   refine bodyPost_ret (results_ro2 (p:=4) (t:=5) rfl _ _ (w.heap.size+1) (evs f L) rfl (HE1.out.ze.row _)) rfl ?_;refine ⟨⟨vl,rfl,?_⟩,?_⟩
   ·have h:=HE1.out.row;rw [evl_length] at h;exact owns_block h fun j hj _=>row_other (by omega) _
   ·exact setRow_below (by omega) HE1.out.bel _
theorem apart_rows {W:World} {b b':Nat} {e e':TypeId} {s s' n n':Nat} {v v':Value} {xs xs':List Value} (h:W.ownsRow b e s v n xs) (h':W.ownsRow b' e' s' v' n' xs') (hne:e≠e'):v.ownBlock=none∨v.ownBlock≠v'.ownBlock:=by
 rcases h.2 with ⟨rfl,_⟩ | ⟨g,cap,cur,rfl,h3,h4,_⟩
 ·exact .inl rfl
 ·rcases h'.2 with ⟨rfl,_⟩ | ⟨g',cap',cur',rfl,h3',h4',_⟩
  ·exact .inr (by simp [Value.ownBlock])
  ·refine .inr fun he=>?_
   simp [Value.ownBlock] at he;subst he;rw [h4] at h4';simp at h4';exact hne h4'.2
theorem int_cell {W:World} {b:Nat} {v:Value} {T:List Nat} (h:W.ownsRow b 3 1 v T.length (nI T)) {k:Nat} (hk:k<T.length):∃g cap,v=.slice (some ⟨g,0,none⟩) T.length cap∧W.cell? ⟨g,k,none⟩=some (.int .i64 ((T.getD k 0:Nat):Int)):=by
 rcases h.2 with ⟨rfl,h0⟩ | ⟨g,cap,cur,rfl,h3,h4,h5,h6,h7,h8⟩
 ·omega
 ·have hc:=World.ownsRow.cellAt h k (by omega);refine ⟨g,cap,rfl,?_⟩;rw [hc];simp [nI,hk]
set_option maxRecDepth 100000 in
set_option maxHeartbeats 400000 in
theorem admit_any (f:Nat→En) (a:Option Addr) (c:Nat) (J:List Int) (sc bs:Int) (w:World) (hT:Tb w) (hJ:RdI w a J) (lJ:J.length≤(bl (nt (tk f))).length) (hbs:J≠[]→1≤bs∧bs+(J.length:Int)≤32768):
  Calls Tryz.prog 250 #[.agg (rcs f),.slice a J.length c,.int .i64 sc,.int .i64 bs] w fun e w'=>(∃v,e=.returned (.tuple #[.agg (rcs (adm f ((bl (nt (tk f))).take J.length) J sc bs J.length)),v])∧w'.ownsRow (w.heap.size+2) 165 2 v J.length (ps (adl ((bl (nt (tk f))).take J.length) J J.length)))∧Below w.heap.size w w':=by
 have hE0:=EV.new w f;obtain ⟨i0,hi,hz0,hz1,hz2⟩:=infoSeat_parts;go_enter Tryz.func250,Tryz.ntmps250;go_upto_region 2 with (fail)
 rw [zero25];generalize (w.alloc (.cells (rcs f) 52)).alloc (.cells (rcs fun _=>zE) 52)=w1 at *;refine wp_region_lit ?_;refine ld25 hE0.ro rfl _ rfl rfl ?_;have htk:=taken_any f w1;obtain ⟨cf,hc⟩:∃cf,rcs f=cf:=⟨_,rfl⟩;rw [hc] at htk ⊢;clear hc;go_wp2_with fail
 refine htk.mono ?_;rintro r w2 ⟨rfl,hb2⟩;have hE2:=hE0.later hb2;have hta:=take_any (tk f) (tk_lt f) (J.length:Int) w2 (hT.later hE2.bel);clear hE0 htk hb2;go_wp2_with fail
 refine hta.mono ?_;rintro r w3 ⟨hP,hb3⟩;unfold TakeP at hP;rw [if_neg (by omega),if_neg (by omega),Int.toNat_natCast] at hP;obtain ⟨vT,rfl,hv⟩:=hP;have hE3:=hE2.later hb3;obtain ⟨T,hTT⟩:∃T,(bl (nt (tk f))).take J.length=T:=⟨_,rfl⟩;have hTl:T.length=J.length:=by rw [←hTT,List.length_take];omega
 have hT64:∀i∈T,i<64:=fun i hi=>by rw [←hTT] at hi;exact (mem_bl.1 (List.mem_of_mem_take hi)).1
 rw [hTT] at hv ⊢;have hJ64:J.length≤64:=Nat.le_trans lJ (bl_len _);have HE3:Hid (EV w w3 f (.slice none 0 0) []):=hE3;have HV:Hid (w3.ownsRow (w.heap.size+2) 3 1 vT T.length (nI T)):=owns_wide hv hE2.size;have HT64:Hid (∀i∈T,i<64):=hT64;have HTL:Hid (T.length=J.length):=hTl;have HTT:Hid ((bl (nt (tk f))).take J.length=T):=hTT;have HBS:Hid (J≠[]→1≤bs∧bs+(J.length:Int)≤32768):=hbs;clear hta hb3 hv hE2 hE3 hTT hT64 lJ hbs;generalize ((pf (tk f) T:Nat):Int)=sw;generalize ((tk f:Nat):Int)=tw;obtain ⟨aT,cT,rfl⟩:=owns_slice HV.out;rw [hTl];clear hTl;go_wp2_with fail
 go_loopw [10,28] (fun v i wx=>∃(k:Nat) (vl:Value),k≤J.length∧i=.int .i64 (k:Int)∧vl=v∧EV w wx (adm f T J sc bs k) vl (adl T J k)∧wx.ownsRow (w.heap.size+2) 3 1 (.slice aT T.length cT) T.length (nI T)) (fun _ i _=>J.length - (intOf i).toNat)
 case atStart=>exact ⟨0,_,by omega,rfl,rfl,HE3.out,HV.out⟩
 case round=>
  obtain ⟨k,vl,hk,rfl,rfl,hev,hrt⟩:=hrel;have HE:Hid (EV w wr (adm f T J sc bs k) vl (adl T J k)):=hev;have HR:Hid (wr.ownsRow (w.heap.size+2) 3 1 (.slice aT T.length cT) T.length (nI T)):=hrt;clear hev hrt HE3 HV;by_cases hkN:k<J.length
  ·have i1:(0:Int)≤(k:Int):=by omega
   have i2:(k:Int)<(J.length:Int):=by omega
   have hTl:=HTL.out;obtain ⟨b1,b2⟩:=HBS.out (fun e=>by rw [e] at hkN;simp at hkN);obtain ⟨b,o,hal,hcell⟩:=(hJ.later HE.out.bel) k hkN;obtain ⟨gT,cT',hgT,hcT⟩:=int_cell HR.out (show k<T.length by omega);have hj64:T.getD k 0<64:=HT64.out _ (by rw [List.getD_eq_getElem?_getD,List.getElem?_eq_getElem (by omega)];exact List.getElem_mem _);have HA:Hid (adm f T J sc bs (k+1)=upd (adm f T J sc bs k) (T.getD k 0) ⟨J.getD k 0,bs+(k:Int),sc⟩):=rfl;have HL:Hid (adl T J (k+1)=adl T J k++[(J.getD k 0,((T.getD k 0:Nat):Int))]):=rfl;have hlen:(adl T J k).length=k:=adl_length T J k;have hsum:IntKind.i64.wrap (bs+(k:Int))=bs+(k:Int):=i64_fit _ (by omega) (by omega);obtain ⟨x,hx⟩:∃x,J.getD k 0=x:=⟨_,rfl⟩;rw [hx] at hcell HA HL;obtain ⟨j,hj⟩:∃j,T.getD k 0=j:=⟨_,rfl⟩;rw [hj] at hcT hj64 HA HL;clear hx hj b1 b2 hTl;generalize adm f T J sc bs k=g at *;generalize adl T J k=l at *;simp only [Value.slice.injEq] at hgT;obtain ⟨rfl,-,rfl⟩:=hgT;subst hal;obtain ⟨a1,cap1,rfl⟩:=owns_slice HE.out.row;rw [hlen];have HLEN:Hid (l.length=k):=hlen;clear hlen;have hrow:wr.ownsRow (w.heap.size+2) 165 2 (.slice a1 k cap1) k (ps l):=by have h:=HE.out.row;rw [HLEN.out] at h;exact h
   have hsz:=HE.out.size;go_upto_region 8 with (at_builtin;(refine wpList_append_own _ rfl _ _ 75 rfl (w.heap.size+2) 165 i0 (.agg #[.int .i64 0,.int .i64 0]) 2 16 Tryz.underlying75 hi hz0 hz1 hz2 rfl (by decide) (.slice a1 k cap1) k (ps l) rfl (hrow.alloc _) ⟨wr.heap.size,0,none⟩ 1 1 [.int .i64 x,.int .i64 (j:Int)] rfl rfl (cell_two_new _ _ _ _) (by simp [Value.oneCell']) (by unfold maxLen;omega) (by omega) (by simp;omega) ?_);intro v' w4 hown' hg4 _)
   have HE4:Hid (EV w w4 g v' (l++[(x,(j:Int))])):=HE.out.app (by rw [HLEN.out];exact hown') (by rw [HLEN.out];exact hg4);have HR4:Hid (w4.ownsRow (w.heap.size+2) 3 1 (.slice (some ⟨gT,0,none⟩) T.length cT) T.length (nI T)):=(HR.out.alloc _).kept hg4 (apart_rows (HR.out.alloc (.cells #[.int .i64 x,.int .i64 (j:Int)] 165)) (hrow.alloc _) (by decide));clear hown' hg4 hrow hsz HE HR hcell hcT;have j1:(j:Int)<64:=by omega
   obtain ⟨c0,c1,c2⟩:=HE4.out.ro.cells j hj64;have f0:=row_frozen HE4.out.ro (j * 3);have f1:=row_frozen HE4.out.ro (j * 3+1);have f2:=row_frozen HE4.out.ro (j * 3+2);have HE5:Hid (EV w (((w4.setCell ⟨w.heap.size,j * 3,none⟩ (.int .i64 x)).setCell ⟨w.heap.size,j * 3+1,none⟩ (.int .i64 (bs+(k:Int)))).setCell ⟨w.heap.size,j * 3+2,none⟩ (.int .i64 sc)) (upd g j ⟨x,bs+(k:Int),sc⟩) v' (l++[(x,(j:Int))])):=HE4.out.set j hj64 x (bs+(k:Int)) sc;have HR5:Hid ((((w4.setCell ⟨w.heap.size,j * 3,none⟩ (.int .i64 x)).setCell ⟨w.heap.size,j * 3+1,none⟩ (.int .i64 (bs+(k:Int)))).setCell ⟨w.heap.size,j * 3+2,none⟩ (.int .i64 sc)).ownsRow (w.heap.size+2) 3 1 (.slice (some ⟨gT,0,none⟩) T.length cT) T.length (nI T)):=owns_block HR4.out fun j hj _=>set3_other (by omega) _ _ _ _ _ _
   go_wp2_with fail
   go_roundw
   case rel=>
    refine ⟨k+1,_,by omega,by go_num,rfl,?_,HR5.out⟩;rw [HA.out,HL.out];exact HE5.out
   case measure=>simp [intOf];omega
  ·obtain rfl:k=J.length:=by omega
   have hdk:decide ((J.length:Int)<(J.length:Int))=false:=by simp
   clear HBS;go_upto_region 10 with (fail)
   refine wp_region_lit ?_;refine ld25 HE.out.ro rfl _ rfl rfl ?_;go_wp2_with (refine st25 HE.out.ze rfl _ _ rfl rfl rfl ?_)
   refine bodyPost_ret (results_ro2 (p:=8) (t:=9) rfl _ _ (w.heap.size+1) (adm f T J sc bs J.length) rfl (HE.out.ze.row _)) rfl ?_;rw [HTT.out];refine ⟨⟨vl,rfl,?_⟩,?_⟩
   ·have h:=HE.out.row;rw [adl_length] at h;exact owns_block h fun j hj _=>row_other (by omega) _
   ·exact setRow_below (by omega) HE.out.bel _
set_option maxRecDepth 4000
theorem fr_zero {f:Nat→En} {lv:Bool}:∀{L p:List Int},fr' f lv p L=0→∀k,k<L.length→er f lv (p++L.take k) (L.getD k 0)=0
 | [],p,_,k,hk=>by simp at hk
 | x::r,p,h,k,hk=>by
  rw [fr'] at h;by_cases h0:er f lv p x=0
  ·rw [if_pos h0] at h
   cases k with
   | zero=>simpa using h0
   | succ k=>
    have:=fr_zero h k (by simpa using hk)
    simpa using this
  ·rw [if_neg h0] at h;exact absurd h h0
theorem fr_of {f:Nat→En} {lv:Bool}:∀{L p:List Int},(∀k,k<L.length→er f lv (p++L.take k) (L.getD k 0)=0)→fr' f lv p L=0
 | [],p,_=>rfl
 | x::r,p,h=>by
  have h0:er f lv p x=0:=by simpa using h 0 (by simp)
  rw [fr',if_pos h0];exact fr_of fun k hk=>by simpa using h (k+1) (by simpa using hk)
theorem er_zero {f:Nat→En} {lv:Bool} {p:List Int} {x:Int}:er f lv p x=0↔wok x=true∧x∉p∧on f x=lv:=by
 unfold er
 cases hw:wok x with
 | false=>simp
 | true=>
  by_cases hm:x∈p
  ·simp [hm]
  ·cases lv <;> cases ho:on f x <;> simp [hm]
structure FitOk (f:Nat→En) (L J:List Int):Prop where
 chk:chk f=true
 lv:∀k,k<L.length→wok (L.getD k 0)=true∧L.getD k 0∉L.take k∧on f (L.getD k 0)=true
 jn:∀k,k<J.length→wok (J.getD k 0)=true∧J.getD k 0∉L++J.take k∧on f (J.getD k 0)=false
 room:J.length≤64 - cnt f+L.length
theorem ft_ok {f:Nat→En} {L J:List Int} (h:ft f L J=0):FitOk f L J:=by
 unfold ft at h
 cases hc:chk f with
 | false=>rw [hc] at h;simp at h
 | true=>
  rw [hc,if_pos rfl] at h;by_cases h1:fr' f true [] L=0
  ·rw [if_pos h1] at h;by_cases h2:fr' f false L J=0
   ·rw [if_pos h2] at h;have h3:¬(J.length>64 - cnt f+L.length):=by intro h3;rw [if_pos h3] at h;omega
    refine ⟨hc,fun k hk=>?_,fun k hk=>?_,by omega⟩
    ·have:=er_zero.1 (fr_zero h1 k hk)
     simpa using this
    ·exact er_zero.1 (fr_zero h2 k hk)
   ·rw [if_neg h2] at h;exact absurd h h2
  ·rw [if_neg h1] at h;exact absurd h h1
theorem ft_of {f:Nat→En} {L J:List Int} (h:FitOk f L J):ft f L J=0:=by
 have h1:fr' f true [] L=0:=fr_of fun k hk=>er_zero.2 (by simpa using h.lv k hk)
 have h2:fr' f false L J=0:=fr_of fun k hk=>er_zero.2 (h.jn k hk)
 rw [ft_full h.chk h1 h2,if_neg (by have:=h.room;omega)]
/- Where somebody is found hangs on the seats that are taken with that number alone. -/
theorem fd_congr {f g:Nat→En} {x:Int}:∀(n k:Nat),(∀i,k≤i→i<k+n→at' f x i=at' g x i)→fd f x k n=fd g x k n
 | 0,k,_=>rfl
 | n+1,k,h=>by
  unfold fd;rw [h k (Nat.le_refl _) (by omega),fd_congr n (k+1) fun i h1 h2=>h i (by omega) (by omega)]
theorem fnd_congr {f g:Nat→En} {x:Int} (h:∀i,i<64→at' f x i=at' g x i):fnd f x=fnd g x:=fd_congr 64 0 fun i _ hi=>h i (by omega)
theorem on_at {f:Nat→En} {x:Int} (h:on f x=true):∃j:Nat,fnd f x=(j:Int)∧j<64∧at' f x j=true:=by
 rcases fnd_range f x with e | ⟨j,e,h1,h2,_⟩
 ·unfold on at h;rw [e] at h;simp at h
 ·exact ⟨j,e,h1,h2⟩
theorem at_who {f:Nat→En} {x:Int} {i:Nat} (h:at' f x i=true):tkn (f i)=true∧(f i).who=x:=by simpa [at'] using h
theorem tkn_zE:tkn zE=false:=rfl
theorem at_ev1 {g:Nat→En} {x y:Int} (hne:x≠y) (i:Nat):at' (ev1 g y) x i=at' g x i:=by
 unfold ev1
 cases ho:on g y with
 | false=>rfl
 | true=>
  obtain ⟨j,hj,hj64,ha⟩:=on_at ho;obtain ⟨h1,h2⟩:=at_who ha;rw [if_pos rfl,hj,Int.toNat_natCast];by_cases hi:i=j
  ·subst hi;unfold at';rw [upd_same,tkn_zE,h2];have hd:decide (y=x)=false:=decide_eq_false (fun e=>hne e.symm);rw [hd];simp
  ·unfold at';rw [upd_ne _ _ hi]
theorem at_evs {x:Int} {i:Nat}:∀{L:List Int} {f:Nat→En},x∉L→at' (evs f L) x i=at' f x i
 | [],f,_=>rfl
 | y::r,f,h=>by
  have h1:x≠y:=fun e=>h (by simp [e])
  have h2:x∉r:=fun e=>h (by simp [e])
  show at' (evs (ev1 f y) r) x i=_
  rw [at_evs h2,at_ev1 h1]
theorem fnd_evs {x:Int} {L:List Int} {f:Nat→En} (h:x∉L):fnd (evs f L) x=fnd f x:=fnd_congr fun i _=>at_evs h
theorem on_evs {x:Int} {L:List Int} {f:Nat→En} (h:x∉L):on (evs f L) x=on f x:=by unfold on;rw [fnd_evs h]
theorem FitOk.out {f:Nat→En} {L J:List Int} (h:FitOk f L J):∀k,k<L.length→on (evs f (L.take k)) (L.getD k 0)=true:=fun k hk=>by
 obtain ⟨_,h2,h3⟩:=h.lv k hk;rw [on_evs h2];exact h3
/- How many are on. -/
theorem tk_upd (g:Nat→En) {j:Nat} (hj:j<64) (e:En):tk (upd g j e)=if tkn e then put (tk g) j else drp (tk g) j:=by
 apply eq_of_bits (tk_lt _) (by split;exact put_lt (tk_lt _) hj;exact drp_lt (tk_lt _))
 intro i hi;rw [tk_bit _ hi];by_cases h:i=j
 ·subst h;rw [upd_same]
  cases he:tkn e with
  | true=>rw [if_pos rfl,put_bit];simp
  | false=>rw [if_neg (by simp),drp_bit hj hi];simp
 ·rw [upd_ne _ _ h];have hd:decide (j=i)=false:=decide_eq_false (fun e=>h e.symm);split
  ·rw [put_bit,hd,Bool.false_or,tk_bit _ hi]
  ·rw [drp_bit hj hi,hd,tk_bit _ hi];rfl
theorem put_self {s j:Nat} (hs:s<18446744073709551616) (hj:j<64) (h:s.testBit j=true):put s j=s:=by
 apply eq_of_bits (put_lt hs hj) hs
 intro i hi;rw [put_bit];by_cases e:j=i
 ·subst e;simp [h]
 ·simp [e]
theorem cnt_drop {g:Nat→En} {j:Nat} (hj:j<64) (h:tkn (g j)=true) {e:En} (he:tkn e=false):cnt (upd g j e)+1=cnt g:=by
 unfold cnt;rw [tk_upd g hj e,he,if_neg (by simp)];have h1:=put_drp (tk_lt g) hj;rw [put_self (tk_lt g) hj (by rw [tk_bit g hj];exact h)] at h1;omega
theorem cnt_ev1 {g:Nat→En} {x:Int} (h:on g x=true):cnt (ev1 g x)+1=cnt g:=by
 obtain ⟨j,hj,hj64,ha⟩:=on_at h;rw [ev1_on hj];exact cnt_drop hj64 (at_who ha).1 tkn_zE
theorem cnt_evs {f:Nat→En} {L:List Int} (h:∀k,k<L.length→on (evs f (L.take k)) (L.getD k 0)=true):∀k,k≤L.length→cnt (evs f (L.take k))+k=cnt f
 | 0,_=>rfl
 | k+1,hk=>by
  have ih:=cnt_evs h k (by omega)
  have e:L.take (k+1)=L.take k++[L.getD k 0]:=by
   rw [List.take_succ_eq_append_getElem (by omega)];simp [List.getD,show k<L.length by omega]
  rw [e,evs_snoc];have:=cnt_ev1 (h k (by omega));omega
theorem FitOk.cnt {f:Nat→En} {L J:List Int} (h:FitOk f L J):cnt (evs f L)+L.length=cnt f:=by
 have:=cnt_evs h.out L.length (Nat.le_refl _)
 rwa [List.take_length] at this
theorem FitOk.lenL {f:Nat→En} {L J:List Int} (h:FitOk f L J):L.length≤64:=by have:=h.cnt;have:=cnt_le f;omega
theorem FitOk.free {f:Nat→En} {L J:List Int} (h:FitOk f L J):J.length≤(bl (nt (tk (evs f L)))).length:=by
 rw [cnt_nt];have h1:=h.cnt;have h2:=h.room;have h3:=cnt_le f;have h4:=cnt_le (evs f L);omega
theorem FitOk.lenJ {f:Nat→En} {L J:List Int} (h:FitOk f L J):J.length≤64:=Nat.le_trans h.free (bl_len _)
theorem fre_bs {f:Nat→En} {bs:Int} {J:List Int} (h:fre f bs J.length=true) (h0:J≠[]):1≤bs∧bs+(J.length:Int)≤32768:=by
 unfold fre at h;have h1:decide (J.length=0)=false:=decide_eq_false fun e=>h0 (List.length_eq_zero_iff.1 e)
 rw [h1] at h;simp at h;omega
theorem mvE_zero {f:Nat→En} {L J:List Int} {sc bs:Int} (h:mvE f L J sc bs=0):FitOk f L J∧eok sc=true∧fre f bs J.length=true:=by
 unfold mvE at h;by_cases h1:ft f L J=0
 ·rw [if_pos h1] at h
  cases h2:eok sc with
  | false=>rw [h2] at h;simp at h
  | true=>
   rw [h2,if_pos rfl] at h
   cases h3:fre f bs J.length with
   | false=>rw [h3] at h;simp at h
   | true=>exact ⟨ft_ok h1,rfl,rfl⟩
 ·rw [if_neg h1] at h;exact absurd h h1
theorem mvE_of {f:Nat→En} {L J:List Int} {sc bs:Int} (h1:FitOk f L J) (h2:eok sc=true) (h3:fre f bs J.length=true):mvE f L J sc bs=0:=by
 unfold mvE;rw [if_pos (ft_of h1),h2,if_pos rfl,h3,if_pos rfl]
/- What a move answers. -/
structure MoveP (w w':World) (f:Nat→En) (L J:List Int) (sc bs:Int) (vl vj:Value):Prop where
 left:w'.ownsRow w.heap.size 165 2 vl (mvL f L J sc bs).length (ps (mvL f L J sc bs))
 join:w'.ownsRow w.heap.size 165 2 vj (mvJ f L J sc bs).length (ps (mvJ f L J sc bs))
 apart:vl.ownBlock=none∨vl.ownBlock≠vj.ownBlock
def MoveA (w w':World) (f:Nat→En) (L J:List Int) (sc bs:Int) (e:Ending):Prop:=∃vl vj,e=.returned (.tuple #[.agg (rcs (mvR f L J sc bs)),vl,vj,.int .i64 (mvE f L J sc bs)])∧MoveP w w' f L J sc bs vl vj
theorem MoveA.no {w w':World} {f:Nat→En} {L J:List Int} {sc bs:Int} {E:Int} (h:mvE f L J sc bs=E) (h0:E≠0):MoveA w w' f L J sc bs (.returned (.tuple #[.agg (rcs fun _=>zE),.slice none 0 0,.slice none 0 0,.int .i64 E])):=by
 have e1:mvR f L J sc bs=fun _=>zE:=by unfold mvR;rw [h,if_neg h0]
 have e2:mvL f L J sc bs=[]:=by unfold mvL;rw [h,if_neg h0]
 have e3:mvJ f L J sc bs=[]:=by unfold mvJ;rw [h,if_neg h0]
 refine ⟨_,_,by rw [e1,h],?_,?_,.inl rfl⟩
 ·rw [e2];exact World.ownsRow_nil _ _ _ _
 ·rw [e3];exact World.ownsRow_nil _ _ _ _
theorem results_ro4 {fn:Func} {p t u v:Tmp} (hf:fn.results=#[.cell p 52,.tmp t,.tmp u,.tmp v]) (tmps:Array Value) (W:World) (B:Nat) (f:Nat→En) (hp:tmps[p]? =some (.pointer (some ⟨B,0,none⟩))) (hb:RoAt W B f):
  (results fn tmps).run Tryz.prog W=.ok (.tuple #[.agg (rcs f),tmps.getD t undef,tmps.getD u undef,tmps.getD v undef]) W:=by
 have h:=run_loadVar_row W B _ 52 _ _ _ hb Tryz.underlying52 rfl (by rw [rcs_size];exact info25);simp [results,hf,hp,asAddr,h]
/- The roster and the batch, boxed, and the answer's place. -/
structure MV (w W:World) (f:Nat→En) (aL aJ:Option Addr) (nL nJ cL cJ:Nat):Prop where
 fs:FS w W f aL aJ nL nJ cL cJ
 ze:RoAt W (w.heap.size+2) (fun _=>zE)
theorem MV.later {w W W':World} {f:Nat→En} {aL aJ:Option Addr} {nL nJ cL cJ:Nat} (h:MV w W f aL aJ nL nJ cL cJ) (hb:Below W.heap.size W W'):MV w W' f aL aJ nL nJ cL cJ:=⟨h.fs.later hb,h.ze.later hb⟩
theorem MV.new (w:World) (f:Nat→En) (aL aJ:Option Addr) (nL nJ cL cJ:Nat):MV w (((w.alloc (.cells (rcs f) 52)).alloc (.cells #[.slice aL nL cL,.slice aJ nJ cJ] 41)).alloc (.cells (rcs fun _=>zE) 52)) f aL aJ nL nJ cL cJ:=by
 have h2:=RoAt.new ((w.alloc (.cells (rcs f) 52)).alloc (.cells #[.slice aL nL cL,.slice aJ nJ cJ] 41)) (fun _=>zE);rw [World.size_alloc,World.size_alloc] at h2;exact ⟨(FS.new w f aL aJ nL nJ cL cJ).later (alloc_ro _ _),h2⟩
theorem mvE_fit {f:Nat→En} {L J:List Int} {sc bs:Int} (h:ft f L J≠0):mvE f L J sc bs=ft f L J:=by unfold mvE;rw [if_neg h]
theorem mvE_ep {f:Nat→En} {L J:List Int} {sc bs:Int} (h:ft f L J=0) (h2:eok sc=false):mvE f L J sc bs=19:=by unfold mvE;rw [if_pos h,h2];rfl
theorem mvE_key {f:Nat→En} {L J:List Int} {sc bs:Int} (h:ft f L J=0) (h2:eok sc=true) (h3:fre f bs J.length=false):mvE f L J sc bs=3:=by unfold mvE;rw [if_pos h,h2,if_pos rfl,h3];rfl
theorem owns_type {W:World} {b:Nat} {e:TypeId} {sz:Nat} {v:Value} {n:Nat} {xs:List Value} (h:W.ownsRow b e sz v n xs) {B:Nat} {cs:Array Value} {t:TypeId} (hB:W.heap[B]? =some (.cells cs t (0,0))) (hne:e≠t) (cs':Array Value):(W.setRow B cs').ownsRow b e sz v n xs:=by
 obtain ⟨h1,h2⟩:=h;refine ⟨h1,?_⟩;rcases h2 with h2 | ⟨g,cap,cur,rfl,h3,h4,r⟩
 ·exact .inl h2
 ·refine .inr ⟨g,cap,cur,rfl,h3,(row_other (fun e=>?_) _).trans h4,r⟩;subst e;rw [hB] at h4;simp at h4;exact hne h4.2.symm
theorem apart_older {W W':World} {b b':Nat} {e e':TypeId} {s s' n n':Nat} {v v':Value} {xs xs':List Value} (h:W.ownsRow b e s v n xs) (h':W'.ownsRow (W.heap.size+b') e' s' v' n' xs'):v.ownBlock=none∨v.ownBlock≠v'.ownBlock:=by
 rcases h.2 with ⟨rfl,_⟩ | ⟨g,cap,cur,rfl,h3,h4,_⟩
 ·exact .inl rfl
 ·rcases h'.2 with ⟨rfl,_⟩ | ⟨g',cap',cur',rfl,h3',h4',_⟩
  ·exact .inr (by simp [Value.ownBlock])
  ·refine .inr fun he=>?_
   simp [Value.ownBlock] at he;have:=(Array.getElem?_eq_some_iff.1 h4).1;omega
theorem zero25':Value.agg Tryz.zeroCells52=.agg (rcs fun _=>zE):=by rw [zero25]
theorem alloc_zero (w:World):w.alloc (.cells Tryz.zeroCells52 52)=w.alloc (.cells (rcs fun _=>zE) 52):=by rw [zero25]
set_option maxRecDepth 100000 in
set_option maxHeartbeats 1000000 in
theorem move_any (f:Nat→En) (aL aJ:Option Addr) (cL cJ:Nat) (L J:List Int) (sc bs:Int) (w:World) (hT:Tb w) (lL:L.length<1152921504606846976) (lJ:J.length<1152921504606846976) (hL:RdI w aL L) (hJ:RdI w aJ J):
  Calls Tryz.prog 190 #[.agg (rcs f),.agg #[.slice aL L.length cL,.slice aJ J.length cJ],.int .i64 sc,.int .i64 bs] w fun e w'=>MoveA w w' f L J sc bs e∧Below w.heap.size w w':=by
 have hM0:=MV.new w f aL aJ L.length J.length cL cJ;go_enter Tryz.func190,Tryz.ntmps190;go_upto_region 1 with (fail)
 rw [zero25];generalize ((w.alloc (.cells (rcs f) 52)).alloc (.cells #[.slice aL L.length cL,.slice aJ J.length cJ] 41)).alloc (.cells (rcs fun _=>zE) 52)=w1 at *;refine wp_region_lit ?_;refine ld25 hM0.fs.ro rfl _ rfl rfl ?_;obtain ⟨cl,cj⟩:=hM0.fs.cells;have hfi:=fits_any f aL aJ cL cJ L J w1 lL lJ (hL.later hM0.fs.bel) (hJ.later hM0.fs.bel);obtain ⟨cf,hc⟩:∃cf,rcs f=cf:=⟨_,rfl⟩;rw [hc] at hfi ⊢;go_wp2_with fail
 refine hfi.mono ?_;rintro r w2 ⟨rfl,hb2⟩;have hM2:=hM0.later hb2;clear hM0 hb2 hfi cl cj;by_cases hft:ft f L J=0
 ·rw [hft];have hep:=isEpoch_any sc
  cases hek:eok sc with
  | false=>
   rw [hek] at hep;go_wp2_with (first | (go_at_call 247;refine (hep _).mono ?_;rintro r w3 ⟨rfl,rfl⟩) | (refine st25 (g:=fun _=>zE) hM2.ze rfl _ _ rfl rfl zero25' ?_))
   refine bodyPost_ret (results_ro4 (p:=8) (t:=9) (u:=10) (v:=11) rfl _ _ (w.heap.size+2) (fun _=>zE) rfl (hM2.ze.row _)) rfl ?_;exact ⟨MoveA.no (mvE_ep hft hek) (by decide),setRow_below (by omega) hM2.fs.bel _⟩
  | true=>
   rw [hek] at hep;go_upto_region 6 with (go_at_call 247;refine (hep _).mono ?_;rintro r w3 ⟨rfl,rfl⟩)
   refine wp_region_lit ?_;refine ld25 hM2.fs.ro rfl _ rfl rfl ?_;obtain ⟨cl,cj⟩:=hM2.fs.cells;have haf:=areFree_any f bs J.length lJ w3;rw [hc] at haf ⊢;go_wp2_with fail
   refine haf.mono ?_;rintro r w4 ⟨rfl,hb4⟩;have hM4:=hM2.later hb4;clear haf hb4 hM2 cl cj hep
   cases hfr:fre f bs J.length with
   | false=>
    go_wp2_with (refine st25 (g:=fun _=>zE) hM4.ze rfl _ _ rfl rfl zero25' ?_)
    refine bodyPost_ret (results_ro4 (p:=8) (t:=9) (u:=10) (v:=11) rfl _ _ (w.heap.size+2) (fun _=>zE) rfl (hM4.ze.row _)) rfl ?_;exact ⟨MoveA.no (mvE_key hft hek hfr) (by decide),setRow_below (by omega) hM4.fs.bel _⟩
   | true=>
    have HOK:Hid (FitOk f L J):=ft_ok hft;have HE:Hid (mvE f L J sc bs=0):=mvE_of HOK.out hek hfr;have HR:Hid (mvR f L J sc bs=adm (evs f L) (mvT f L J) J sc bs J.length):=by show mvR f L J sc bs=_;unfold mvR;rw [HE.out,if_pos rfl]
    have HL:Hid (mvL f L J sc bs=evl f L):=by show mvL f L J sc bs=_;unfold mvL;rw [HE.out,if_pos rfl]
    have HJ:Hid (mvJ f L J sc bs=adl (mvT f L J) J J.length):=by show mvJ f L J sc bs=_;unfold mvJ;rw [HE.out,if_pos rfl]
    go_upto_region 8 with (fail)
    refine wp_region_lit ?_;refine ld25 hM4.fs.ro rfl _ rfl rfl ?_;obtain ⟨cl,cj⟩:=hM4.fs.cells;have hev:=evict_any f aL cL L w4 (Nat.le_trans HOK.out.lenL (by omega)) (hL.later hM4.fs.bel) HOK.out.out;rw [hc] at hev ⊢;go_wp2_with fail
    refine hev.mono ?_;rintro r w5 ⟨⟨vl,rfl,hrow⟩,hb5⟩;have hM5:=hM4.later hb5;have hz5:RoAt (w5.alloc (.cells Tryz.zeroCells52 52)) w5.heap.size (fun _=>zE):=by rw [alloc_zero];exact RoAt.new _ _
    have hs5:w4.heap.size≤w5.heap.size:=hb5.size;have hs4:w.heap.size+2<w4.heap.size:=hM4.ze.lt;have HROW:Hid (w5.ownsRow (w4.heap.size+2) 165 2 vl L.length (ps (evl f L))):=hrow;clear hev hb5 cl cj hrow hM4;go_upto_region 9 with (refine st25 (g:=evs f L) hz5 rfl _ _ rfl rfl rfl ?_)
    rw [alloc_zero,World.setRow_alloc_new];have hR6:=RoAt.new w5 (evs f L);have hb6:=alloc_ro w5 (evs f L);have hM6:=hM5.later hb6;have HROW6:Hid ((w5.alloc (.cells (rcs (evs f L)) 52)).ownsRow (w4.heap.size+2) 165 2 vl L.length (ps (evl f L))):=owns_later HROW.out hb6;have hs6:w5.heap.size<(w5.alloc (.cells (rcs (evs f L)) 52)).heap.size:=by simp
    clear hb6 hz5 HROW;generalize w5.alloc (.cells (rcs (evs f L)) 52)=w6 at *;refine wp_region_lit ?_;refine ld25 hR6 rfl _ rfl rfl ?_;obtain ⟨cl,cj⟩:=hM6.fs.cells;have had:=admit_any (evs f L) aJ cJ J sc bs w6 (hT.later hM6.fs.bel) (hJ.later hM6.fs.bel) HOK.out.free (fre_bs hfr);obtain ⟨ce,hce⟩:∃ce,rcs (evs f L)=ce:=⟨_,rfl⟩;rw [hce] at had ⊢;clear hM5;go_wp2_with fail
    refine had.mono ?_;rintro r w7 ⟨⟨vj,rfl,hrow7⟩,hb7⟩;have hR7:=hR6.later hb7;have hM7:=hM6.later hb7;have HL7:Hid (w7.ownsRow (w4.heap.size+2) 165 2 vl L.length (ps (evl f L))):=owns_later HROW6.out hb7;have HJ7:Hid (w7.ownsRow (w6.heap.size+2) 165 2 vj J.length (ps (adl (mvT f L J) J J.length))):=hrow7;have HAP:Hid (vl.ownBlock=none∨vl.ownBlock≠vj.ownBlock):=apart_older HROW6.out hrow7;have hs7:w6.heap.size≤w7.heap.size:=hb7.size;clear had hb7 hrow7 hM6 hR6 cl cj;obtain ⟨ga,hga⟩:∃ga,adm (evs f L) ((bl (nt (tk (evs f L)))).take J.length) J sc bs J.length=ga:=⟨_,rfl⟩;have HGA:Hid (mvR f L J sc bs=ga):=by show mvR f L J sc bs=ga;rw [HR.out];exact hga
    rw [hga];clear hga;go_upto_region 10 with (refine st25 (g:=ga) hR7 rfl _ _ rfl rfl rfl ?_)
    have hR8:=hR7.row ga;have hne:w.heap.size+2≠w5.heap.size:=by omega
    have hZ8:RoAt (w7.setRow w5.heap.size (rcs ga)) (w.heap.size+2) (fun _=>zE):=(row_other hne _).trans hM7.ze;have hB8:Below w.heap.size w (w7.setRow w5.heap.size (rcs ga)):=setRow_below (by omega) hM7.fs.bel _;have HL8:Hid ((w7.setRow w5.heap.size (rcs ga)).ownsRow w.heap.size 165 2 vl L.length (ps (evl f L))):=owns_wide (owns_type HL7.out hR7 (by decide) _) (by omega);have HJ8:Hid ((w7.setRow w5.heap.size (rcs ga)).ownsRow w.heap.size 165 2 vj J.length (ps (adl (mvT f L J) J J.length))):=owns_wide (owns_type HJ7.out hR7 (by decide) _) (by omega);clear HL7 HJ7 hR7 hM7;generalize w7.setRow w5.heap.size (rcs ga)=w8 at *;refine wp_region_lit ?_;refine ld25 hR8 rfl _ rfl rfl ?_;go_wp2_with (refine st25 (g:=ga) hZ8 rfl _ _ rfl rfl rfl ?_)
    refine bodyPost_ret (results_ro4 (p:=8) (t:=9) (u:=10) (v:=11) rfl _ _ (w.heap.size+2) ga rfl (hZ8.row _)) rfl ?_;refine ⟨⟨vl,vj,?_,?_,?_,HAP.out⟩,setRow_below (by omega) hB8 _⟩
    ·rw [HGA.out,HE.out];rfl
    ·rw [HL.out,evl_length];exact owns_type HL8.out hZ8 (by decide) _
    ·rw [HJ.out,adl_length];exact owns_type HJ8.out hZ8 (by decide) _
 ·have h1:(ft f L J==0)=false:=by simp [hft]
  have HFT:Hid (¬ft f L J=0):=hft;clear hft;have HE:Hid (mvE f L J sc bs=ft f L J):=mvE_fit HFT.out;go_wp2_with (refine st25 (g:=fun _=>zE) hM2.ze rfl _ _ rfl rfl zero25' ?_)
  refine bodyPost_ret (results_ro4 (p:=8) (t:=9) (u:=10) (v:=11) rfl _ _ (w.heap.size+2) (fun _=>zE) rfl (hM2.ze.row _)) rfl ?_;exact ⟨MoveA.no HE.out HFT.out,setRow_below (by omega) hM2.fs.bel _⟩
theorem take_getN {T:List Nat} {k:Nat} (h:k<T.length):T.take (k+1)=T.take k++[T.getD k 0]:=by
 rw [List.take_succ_eq_append_getElem h];simp [List.getD,h]
theorem tk_adm {f:Nat→En} {T:List Nat} {J:List Int} {sc bs:Int} (hT:∀i∈T,i<64) (hb:1≤bs):∀k,k≤T.length→tk (adm f T J sc bs k)=pf (tk f) (T.take k)
 | 0,_=>rfl
 | k+1,hk=>by
  have ih:=tk_adm (f:=f) (J:=J) (sc:=sc) hT hb k (by omega);have h64:T.getD k 0<64:=hT _ (by rw [List.getD_eq_getElem?_getD,List.getElem?_eq_getElem (by omega)];exact List.getElem_mem _);have ht:tkn ⟨J.getD k 0,bs+(k:Int),sc⟩=true:=by simp [tkn];omega
  rw [adm,tk_upd _ h64,ht,if_pos rfl,ih,take_getN (by omega),pf_snoc]
theorem bl_head {s t:Nat} {r:List Nat} (h:bl s=t::r):s.testBit t=true∧t<64∧∀i,i<t→s.testBit i=false:=by
 obtain ⟨_,h2,h3,h4⟩:=bf_tail h;refine ⟨h3,by omega,fun i hi=>?_⟩
 cases hb:s.testBit i with
 | false=>rfl
 | true=>
  have hm:i∈bl s:=mem_bl.2 ⟨by omega,hb⟩;rw [h] at hm;rcases List.mem_cons.1 hm with e | e
  ·omega
  ·rw [h4] at e;have:=(mem_bf.1 e).1;omega
/- The slots that are given. -/
structure Slots (f:Nat→En) (T:List Nat) (J:List Int) (sc bs:Int) (k:Nat):Prop where
 lt:T.getD k 0<64
 free:tkn (adm f T J sc bs k (T.getD k 0))=false
 low:∀i,i<T.getD k 0→tkn (adm f T J sc bs k i)=true
theorem slots_of {f:Nat→En} {J:List Int} {sc bs:Int} {n:Nat} (hn:n≤(bl (nt (tk f))).length) (hb:1≤bs) {k:Nat} (hk:k<n):Slots f ((bl (nt (tk f))).take n) J sc bs k:=by
 have hT:∀i∈(bl (nt (tk f))).take n,i<64:=fun i hi=>(mem_bl.1 (List.mem_of_mem_take hi)).1
 have hl:((bl (nt (tk f))).take n).length=n:=by rw [List.length_take];omega
 have ht:=tk_adm (f:=f) (J:=J) (sc:=sc) hT hb k (by omega);rw [List.take_take,Nat.min_eq_left (by omega)] at ht;have hd:=bl_pf k (tk_lt f);rw [←ht,List.drop_eq_getElem_cons (show k<(bl (nt (tk f))).length by omega)] at hd;obtain ⟨h1,h2,h3⟩:=bl_head hd
 have e:((bl (nt (tk f))).take n).getD k 0=(bl (nt (tk f)))[k]:=by
  rw [List.getD_eq_getElem?_getD,List.getElem?_eq_getElem (by omega),List.getElem_take];rfl
 rw [←e] at h1 h2 h3;refine ⟨h2,?_,fun i hi=>?_⟩
 ·rw [nt_bit (tk_lt _) h2,tk_bit _ h2] at h1
  simpa using h1
 ·have:=h3 i hi;rw [nt_bit (tk_lt _) (by omega),tk_bit _ (by omega)] at this
  simpa using this
theorem FitOk.slots {f:Nat→En} {L J:List Int} (h:FitOk f L J) {sc bs:Int} (hb:1≤bs) {k:Nat} (hk:k<J.length):Slots (evs f L) (mvT f L J) J sc bs k:=slots_of h.free hb hk
theorem FitOk.lenT {f:Nat→En} {L J:List Int} (h:FitOk f L J):(mvT f L J).length=J.length:=by
 unfold mvT;have:=h.free;rw [List.length_take];omega
end Go.Proofs.YtoimkngkcliinaaGreatDoor.Rs
