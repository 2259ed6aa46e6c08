/- FrD, FrH, FrJ, joined. -/
import Derived.Test.YtanaapfobpgibaaGreatDoorJFrB
open Go.Proofs.Tryz
set_option maxHeartbeats 2000000
namespace Go.Proofs.YtanaapfobpgibaaGreatDoor.Jr
open Go.RowKit Go.Maps
set_option linter.unusedVariables false
set_option linter.unusedSimpArgs false
theorem acr (w:World) (T:TypeId) (n:Nat) (hn:n=w.heap.size):Bt.bM (w.alloc (.cells #[.int .i64 16,.int .i64 8,.int .i64 8,.int .i64 8] T)) (some ⟨n,0,none⟩) [16,8,8,8]:=by
 subst hn;intro i hi;refine ⟨w.heap.size,0,rfl,?_⟩;have hi4:i<4:=hi;have:i=0∨i=1∨i=2∨i=3:=by omega
 rcases this with rfl | rfl | rfl | rfl <;> simp [go_sem]
theorem ads (s:ByteArray) (h:5≤s.size):Bt.bA (s.extract 0 5)=[bt s 0,bt s 1,bt s 2,bt s 3,bt s 4]:=by
 unfold Bt.bA bt;rw [ja];have hl:5≤s.data.toList.length:=by rw [nk];exact h
 match s.data.toList,hl with
 | a::b::c::d::e::l,_=>simp
theorem un5 (s:ByteArray) (h:5≤s.size):Bt.Hk (Bt.tb (Bt.bA (s.extract 0 5))) [16,8,8,8]=[256 * bt s 0+bt s 1,bt s 2,bt s 3,bt s 4]∧Bt.ML (Bt.tb (Bt.bA (s.extract 0 5))) [16,8,8,8]=0:=by
 rw [ads s h];exact Uy _ _ _ _ _ (qZ s 0) (qZ s 1) (qZ s 2) (qZ s 3) (qZ s 4)
theorem acp {w:World} {B:Nat} {v:Value} {a b c d:Nat} (h:w.ownsRow B 108 1 v 4 (Bt.oW [a,b,c,d])):∃g cap,v=.slice (some ⟨g,0,none⟩) 4 cap∧w.cell? ⟨g,0,none⟩=some (.int .u64 (a:Int))∧w.cell? ⟨g,1,none⟩=some (.int .u64 (b:Int))∧w.cell? ⟨g,2,none⟩=some (.int .u64 (c:Int))∧w.cell? ⟨g,3,none⟩=some (.int .u64 (d:Int)):=by
 rcases h.2 with ⟨h0,hn⟩ | ⟨g,cap,cur,hv,_⟩
 ·cases hn
 ·subst hv;refine ⟨g,cap,rfl,?_,?_,?_,?_⟩
  ·rw [h.cellAt 0 (by omega)];rfl
  ·rw [h.cellAt 1 (by omega)];rfl
  ·rw [h.cellAt 2 (by omega)];rfl
  ·rw [h.cellAt 3 (by omega)];rfl
set_option maxRecDepth 100000 in
theorem gj (s:ByteArray) (w:World) (h:s.size=32) (h4:bt s 4≤23):Calls prog 257 #[.string s] w fun e w'=>e=.returned (.agg #[.int .i64 (rq s),.int .i64 (bt s 2:Nat),.int .i64 (bt s 3:Nat),.string (yI s)])∧Below w.heap.size w w':=by
 obtain ⟨u1,u2⟩:=un5 s (by omega);have b0:=qZ s 0;have b1:=qZ s 1;have b2:=qZ s 2;have b3:=qZ s 3;have HQ:Hid (rq s=((256 * bt s 0+bt s 1:Nat):Int)):=rfl;have HD:Hid (yI s=s.extract 5 (5+bt s 4)):=rfl;obtain ⟨A,hA⟩:∃A,256 * bt s 0+bt s 1=A:=⟨_,rfl⟩;obtain ⟨b,hb2⟩:∃b,bt s 2=b:=⟨_,rfl⟩;obtain ⟨c,hc3⟩:∃c,bt s 3=c:=⟨_,rfl⟩;obtain ⟨z,hz4⟩:∃z,bt s 4=z:=⟨_,rfl⟩;have Za:A<65536:=by omega
 rw [hA] at u1 HQ;rw [hb2] at u1 b2 ⊢;rw [hc3] at u1 b3 ⊢;rw [hz4] at u1 h4 HD;clear hA hb2 hc3 hz4 b0 b1;have w1:IntKind.i64.wrap (A:Int)=(A:Int):=Bt.bu _ (by omega) (by omega);have w2:IntKind.i64.wrap (b:Int)=(b:Int):=Bt.bu _ (by omega) (by omega);have w3:IntKind.i64.wrap (c:Int)=(c:Int):=Bt.bu _ (by omega) (by omega);have w4:IntKind.i64.wrap (z:Int)=(z:Int):=Bt.bu _ (by omega) (by omega);have w5:IntKind.i64.wrap (5+(z:Int))=5+(z:Int):=Bt.bu _ (by omega) (by omega);go_enter func257,ntmps257;go_wp2_with fail
 have hun:=Bt.ER (some ⟨w.heap.size+1,0,none⟩) 4 4 [16,8,8,8] _ (s.extract 0 5) rfl rfl _ (by omega) (by have:=ByteArray.size_extract (a:=s) (b:=0) (e:=5);omega) (acr (w.alloc (.cells #[.int .i64 0,.int .i64 0,.int .i64 0,.string ⟨#[]⟩] 234)) 3 _ (by simp));rw [u1,u2] at hun;refine hun.mono ?_;rintro e w6 ⟨v,rfl,hrow,hb⟩;obtain ⟨g,cap,rfl,c0,c1,c2,c3⟩:=acp hrow;have hg:=(hrow.lt g rfl).1;simp at hg;have hgn:w.heap.size≠g:=by omega
 have adY:g≠w.heap.size:=by omega
 have hblk:w6.heap[w.heap.size]? =some (.cells #[.int .i64 0,.int .i64 0,.int .i64 0,.string ⟨#[]⟩] 234):=by
  rw [hb.block w.heap.size (by simp;omega)];rw [Below.heap_alloc _ _ _ (by simp)];exact heap_alloc_new w _
 have d0:w6.cell? ⟨w.heap.size,0,none⟩=some (.int .i64 0):=by simp [World.cell?,hblk]
 have d1:w6.cell? ⟨w.heap.size,1,none⟩=some (.int .i64 0):=by simp [World.cell?,hblk]
 have d2:w6.cell? ⟨w.heap.size,2,none⟩=some (.int .i64 0):=by simp [World.cell?,hblk]
 have d3:w6.cell? ⟨w.heap.size,3,none⟩=some (.string ⟨#[]⟩):=by simp [World.cell?,hblk]
 have f0:∀j,w6.frozen? ⟨w.heap.size,j,none⟩=false:=fun j=>by simp [World.frozen?,hblk]
 have f1:=f0 0;have f2:=f0 1;have f3:=f0 2;have f4:=f0 3;have HB6:Hid (Below w.heap.size w w6):=Below.then (Below.more (aX _ _) _) hb;have z0:(0:Int)≤(z:Int):=by omega
 have z1:(5:Int)+(z:Int)≤32:=by omega
 have z2:(5:Int)≤5+(z:Int):=by omega
 have z3:((5:Int)+(z:Int)).toNat=5+z:=by omega
 have z4:(0:Int)≤5+(z:Int):=by omega
 clear hun hrow hb u1 u2 hblk f0;go_wp2_with fail
 go_region_held3 (fun w'=>w'.cell? ⟨g,0,none⟩=some (.int .u64 (A:Int))∧w'.cell? ⟨g,1,none⟩=some (.int .u64 (b:Int))∧w'.cell? ⟨g,2,none⟩=some (.int .u64 (c:Int))∧w'.cell? ⟨g,3,none⟩=some (.int .u64 (z:Int))) (go_keep) (fail)
 go_wp2
 refine bodyPost_ret (v:=.agg #[.int .i64 (A:Int),.int .i64 (b:Int),.int .i64 (c:Int),.string (s.extract 5 (5+z))]) (by simp [results,results257,go_sem,d0,d1,d2,d3]) rfl ⟨by rw [HQ.out,HD.out],?_⟩;exact Below.drew ((((HB6.out.setCell (Nat.le_refl _) _).setCell (Nat.le_refl _) _).setCell (Nat.le_refl _) _).setCell (Nat.le_refl _) _)
theorem XK {X Y:ByteArray} (h:X≠Y):(X.toList==Y.toList)=false:=by
 rw [beq_eq_false_iff_ne,ByteArray.toList_eq,ByteArray.toList_eq];intro e;exact h (ByteArray.ext (Array.ext' e))
set_option maxRecDepth 100000 in
theorem zL (s:ByteArray) (w:World) (h:s.size≠32):Calls prog 236 #[.string s] w fun e w'=>e=.returned (.tuple #[.agg #[.int .i64 0,.int .i64 0,.int .i64 0,.string ⟨#[]⟩],.int .i64 7])∧Below w.heap.size w w':=by
 obtain ⟨z,hz⟩:∃z,s.size=z:=⟨_,rfl⟩;have h0:((z:Int) !=32)=true:=by simp;omega
 clear h;go_enter func236,ntmps236;go_wp2
 refine bodyPost_ret (v:=.tuple #[.agg #[.int .i64 0,.int .i64 0,.int .i64 0,.string ⟨#[]⟩],.int .i64 7]) (by simp [results,results236,go_sem, *]) rfl ⟨rfl,?_⟩;exact aX _ _
set_option maxRecDepth 100000 in
theorem B8 (s:ByteArray) (w:World) (h:s.size=32) (h4:23<bt s 4):Calls prog 236 #[.string s] w fun e w'=>e=.returned (.tuple #[.agg #[.int .i64 0,.int .i64 0,.int .i64 0,.string ⟨#[]⟩],.int .i64 7])∧Below w.heap.size w w':=by
 have e4:=Bg s 4 (by omega);obtain ⟨t,ht⟩:∃t,bt s 4=t:=⟨_,rfl⟩;rw [ht] at e4 h4;have e4':=e4.symm;have h5:(23:Int)<(t:Int):=by omega
 clear e4 ht;go_enter func236,ntmps236;go_wp2
 refine bodyPost_ret (v:=.tuple #[.agg #[.int .i64 0,.int .i64 0,.int .i64 0,.string ⟨#[]⟩],.int .i64 7]) (by simp [results,results236,go_sem, *]) rfl ⟨rfl,?_⟩;exact aX _ _
set_option maxRecDepth 100000 in
theorem xU (s:ByteArray) (w:World) (h:s.size=32) (h4:bt s 4≤23) (hr:rt (rq s) (bt s 2) (bt s 3) (yI s).size=false):Calls prog 236 #[.string s] w fun e w'=>e=.returned (.tuple #[.agg #[.int .i64 0,.int .i64 0,.int .i64 0,.string ⟨#[]⟩],.int .i64 7])∧Below w.heap.size w w':=by
 have e4:=Bg s 4 (by omega);have fV:=fun W=>gj s W h h4
 have hsz:=mF s h h4;obtain ⟨t,ht⟩:∃t,bt s 4=t:=⟨_,rfl⟩;rw [ht] at e4 h4 hsz;have e4':=e4.symm;have h5:decide ((23:Int)<(t:Int))=false:=by simp;omega
 obtain ⟨D,hD⟩:∃D,yI s=D:=⟨_,rfl⟩;obtain ⟨q,hq⟩:∃q,rq s=q:=⟨_,rfl⟩;obtain ⟨p,hp⟩:∃p,bt s 2=p:=⟨_,rfl⟩;obtain ⟨n,hn⟩:∃n,bt s 3=n:=⟨_,rfl⟩;rw [hD,hq,hp,hn] at hr;simp only [hD,hq,hp,hn] at fV;rw [hD] at hsz;have hblk:=fun W=>D1 q p n D W hr
 clear hr;clear e4 ht hD hq hp hn hsz;go_enter func236,ntmps236;go_wp2_with fail
 refine (fV _).mono ?_;rintro e w1 ⟨rfl,hb1⟩;have Pr:=hb1.size;simp at Pr
 have g0:w1.heap[w.heap.size]? =some (.cells #[.int .i64 0,.int .i64 0,.int .i64 0,.string ⟨#[]⟩] 234):=by
  rw [hb1.block w.heap.size (by simp)];exact heap_alloc_new w _
 have dV:Hid (Below w.heap.size w w1):=Below.then (aX _ _) hb1;clear hb1 fV;go_wp2_with fail
 refine (hblk _).mono ?_;rintro e w2 ⟨rfl,hb2⟩;have hne:w1.heap.size≠w.heap.size:=by omega
 have G0:w2.heap[w.heap.size]? =some (.cells #[.int .i64 0,.int .i64 0,.int .i64 0,.string ⟨#[]⟩] 234):=by
  rw [hb2.block w.heap.size (by simp;omega),Below.heap_alloc _ _ _ (by omega)];exact g0
 have G1:w2.heap[w1.heap.size]? =some (.cells #[.int .i64 q,.int .i64 (p:Int),.int .i64 (n:Int),.string D] 234):=by
  rw [hb2.block w1.heap.size (by simp)];exact heap_alloc_new w1 _
 have bm:Hid (Below w.heap.size w w2):=Below.then dV.out (Below.then (aX _ _) hb2);have d0:w2.cell? ⟨w.heap.size,0,none⟩=some (.int .i64 0):=by simp [World.cell?,G0]
 have d1:w2.cell? ⟨w.heap.size,1,none⟩=some (.int .i64 0):=by simp [World.cell?,G0]
 have d2:w2.cell? ⟨w.heap.size,2,none⟩=some (.int .i64 0):=by simp [World.cell?,G0]
 have d3:w2.cell? ⟨w.heap.size,3,none⟩=some (.string ⟨#[]⟩):=by simp [World.cell?,G0]
 have f0:w2.frozen? ⟨w.heap.size,0,none⟩=false:=by simp [World.frozen?,G0]
 have f1:w2.frozen? ⟨w.heap.size,1,none⟩=false:=by simp [World.frozen?,G0]
 have f2:w2.frozen? ⟨w.heap.size,2,none⟩=false:=by simp [World.frozen?,G0]
 have f3:w2.frozen? ⟨w.heap.size,3,none⟩=false:=by simp [World.frozen?,G0]
 have p0:w2.cell? ⟨w1.heap.size,0,none⟩=some (.int .i64 q):=by simp [World.cell?,G1]
 have p1:w2.cell? ⟨w1.heap.size,1,none⟩=some (.int .i64 (p:Int)):=by simp [World.cell?,G1]
 have p2:w2.cell? ⟨w1.heap.size,2,none⟩=some (.int .i64 (n:Int)):=by simp [World.cell?,G1]
 have p3:w2.cell? ⟨w1.heap.size,3,none⟩=some (.string D):=by simp [World.cell?,G1]
 clear hb2 g0 G0 G1 hblk;go_wp2_with fail
 refine bodyPost_ret (v:=.tuple #[.agg #[.int .i64 0,.int .i64 0,.int .i64 0,.string ⟨#[]⟩],.int .i64 7]) (by simp [results,results236,go_sem, *]) rfl ⟨rfl,?_⟩;exact (((bm.out.setCell (Nat.le_refl _) _).setCell (Nat.le_refl _) _).setCell (Nat.le_refl _) _).setCell (Nat.le_refl _) _
set_option maxRecDepth 100000 in
theorem xV (s:ByteArray) (w:World) (h:s.size=32) (h4:bt s 4≤23) (hr:rt (rq s) (bt s 2) (bt s 3) (yI s).size=true) (Un:bl (rq s) (bt s 2) (bt s 3) (yI s)≠s):Calls prog 236 #[.string s] w fun e w'=>e=.returned (.tuple #[.agg #[.int .i64 0,.int .i64 0,.int .i64 0,.string ⟨#[]⟩],.int .i64 7])∧Below w.heap.size w w':=by
 have e4:=Bg s 4 (by omega);have fV:=fun W=>gj s W h h4
 have hsz:=mF s h h4;obtain ⟨t,ht⟩:∃t,bt s 4=t:=⟨_,rfl⟩;rw [ht] at e4 h4 hsz;have e4':=e4.symm;have h5:decide ((23:Int)<(t:Int))=false:=by simp;omega
 obtain ⟨D,hD⟩:∃D,yI s=D:=⟨_,rfl⟩;obtain ⟨q,hq⟩:∃q,rq s=q:=⟨_,rfl⟩;obtain ⟨p,hp⟩:∃p,bt s 2=p:=⟨_,rfl⟩;obtain ⟨n,hn⟩:∃n,bt s 3=n:=⟨_,rfl⟩;rw [hD,hq,hp,hn] at hr;simp only [hD,hq,hp,hn] at fV;rw [hD] at hsz;rw [hD,hq,hp,hn] at Un;have hblk:=fun W=>sL q p n D W
 simp only [hr,if_true] at hblk;obtain ⟨X,hX⟩:∃X,bl q p n D=X:=⟨_,rfl⟩;simp only [hX] at hblk;rw [hX] at Un;have hst:=XK Un;clear hr hX Un;clear e4 ht hD hq hp hn hsz;go_enter func236,ntmps236;go_wp2_with fail
 refine (fV _).mono ?_;rintro e w1 ⟨rfl,hb1⟩;have Pr:=hb1.size;simp at Pr
 have g0:w1.heap[w.heap.size]? =some (.cells #[.int .i64 0,.int .i64 0,.int .i64 0,.string ⟨#[]⟩] 234):=by
  rw [hb1.block w.heap.size (by simp)];exact heap_alloc_new w _
 have dV:Hid (Below w.heap.size w w1):=Below.then (aX _ _) hb1;clear hb1 fV;go_wp2_with fail
 refine (hblk _).mono ?_;rintro e w2 ⟨rfl,hb2⟩;have hne:w1.heap.size≠w.heap.size:=by omega
 have G0:w2.heap[w.heap.size]? =some (.cells #[.int .i64 0,.int .i64 0,.int .i64 0,.string ⟨#[]⟩] 234):=by
  rw [hb2.block w.heap.size (by simp;omega),Below.heap_alloc _ _ _ (by omega)];exact g0
 have G1:w2.heap[w1.heap.size]? =some (.cells #[.int .i64 q,.int .i64 (p:Int),.int .i64 (n:Int),.string D] 234):=by
  rw [hb2.block w1.heap.size (by simp)];exact heap_alloc_new w1 _
 have bm:Hid (Below w.heap.size w w2):=Below.then dV.out (Below.then (aX _ _) hb2);have d0:w2.cell? ⟨w.heap.size,0,none⟩=some (.int .i64 0):=by simp [World.cell?,G0]
 have d1:w2.cell? ⟨w.heap.size,1,none⟩=some (.int .i64 0):=by simp [World.cell?,G0]
 have d2:w2.cell? ⟨w.heap.size,2,none⟩=some (.int .i64 0):=by simp [World.cell?,G0]
 have d3:w2.cell? ⟨w.heap.size,3,none⟩=some (.string ⟨#[]⟩):=by simp [World.cell?,G0]
 have f0:w2.frozen? ⟨w.heap.size,0,none⟩=false:=by simp [World.frozen?,G0]
 have f1:w2.frozen? ⟨w.heap.size,1,none⟩=false:=by simp [World.frozen?,G0]
 have f2:w2.frozen? ⟨w.heap.size,2,none⟩=false:=by simp [World.frozen?,G0]
 have f3:w2.frozen? ⟨w.heap.size,3,none⟩=false:=by simp [World.frozen?,G0]
 have p0:w2.cell? ⟨w1.heap.size,0,none⟩=some (.int .i64 q):=by simp [World.cell?,G1]
 have p1:w2.cell? ⟨w1.heap.size,1,none⟩=some (.int .i64 (p:Int)):=by simp [World.cell?,G1]
 have p2:w2.cell? ⟨w1.heap.size,2,none⟩=some (.int .i64 (n:Int)):=by simp [World.cell?,G1]
 have p3:w2.cell? ⟨w1.heap.size,3,none⟩=some (.string D):=by simp [World.cell?,G1]
 clear hb2 g0 G0 G1 hblk;go_wp2_with fail
 refine bodyPost_ret (v:=.tuple #[.agg #[.int .i64 0,.int .i64 0,.int .i64 0,.string ⟨#[]⟩],.int .i64 7]) (by simp [results,results236,go_sem, *]) rfl ⟨rfl,?_⟩;exact (((bm.out.setCell (Nat.le_refl _) _).setCell (Nat.le_refl _) _).setCell (Nat.le_refl _) _).setCell (Nat.le_refl _) _
set_option maxRecDepth 100000 in
theorem zM (s:ByteArray) (w:World) (h:s.size=32) (h4:bt s 4≤23) (hr:rt (rq s) (bt s 2) (bt s 3) (yI s).size=true) (he:bl (rq s) (bt s 2) (bt s 3) (yI s)=s):Calls prog 236 #[.string s] w fun e w'=>e=.returned (.tuple #[.agg #[.int .i64 (rq s),.int .i64 (bt s 2:Nat),.int .i64 (bt s 3:Nat),.string (yI s)],.int .i64 0])∧Below w.heap.size w w':=by
 have e4:=Bg s 4 (by omega);have fV:=fun W=>gj s W h h4
 have hsz:=mF s h h4;obtain ⟨t,ht⟩:∃t,bt s 4=t:=⟨_,rfl⟩;rw [ht] at e4 h4 hsz;have e4':=e4.symm;have h5:decide ((23:Int)<(t:Int))=false:=by simp;omega
 obtain ⟨D,hD⟩:∃D,yI s=D:=⟨_,rfl⟩;obtain ⟨q,hq⟩:∃q,rq s=q:=⟨_,rfl⟩;obtain ⟨p,hp⟩:∃p,bt s 2=p:=⟨_,rfl⟩;obtain ⟨n,hn⟩:∃n,bt s 3=n:=⟨_,rfl⟩;rw [hD,hq,hp,hn] at hr;simp only [hD,hq,hp,hn] at fV;rw [hD] at hsz;rw [hD,hq,hp,hn] at he ⊢;have hblk:=fun W=>sL q p n D W
 simp only [hr,if_true,he] at hblk;clear hr he;clear e4 ht hD hq hp hn hsz;go_enter func236,ntmps236;go_wp2_with fail
 refine (fV _).mono ?_;rintro e w1 ⟨rfl,hb1⟩;have Pr:=hb1.size;simp at Pr
 have g0:w1.heap[w.heap.size]? =some (.cells #[.int .i64 0,.int .i64 0,.int .i64 0,.string ⟨#[]⟩] 234):=by
  rw [hb1.block w.heap.size (by simp)];exact heap_alloc_new w _
 have dV:Hid (Below w.heap.size w w1):=Below.then (aX _ _) hb1;clear hb1 fV;go_wp2_with fail
 refine (hblk _).mono ?_;rintro e w2 ⟨rfl,hb2⟩;have hne:w1.heap.size≠w.heap.size:=by omega
 have G0:w2.heap[w.heap.size]? =some (.cells #[.int .i64 0,.int .i64 0,.int .i64 0,.string ⟨#[]⟩] 234):=by
  rw [hb2.block w.heap.size (by simp;omega),Below.heap_alloc _ _ _ (by omega)];exact g0
 have G1:w2.heap[w1.heap.size]? =some (.cells #[.int .i64 q,.int .i64 (p:Int),.int .i64 (n:Int),.string D] 234):=by
  rw [hb2.block w1.heap.size (by simp)];exact heap_alloc_new w1 _
 have bm:Hid (Below w.heap.size w w2):=Below.then dV.out (Below.then (aX _ _) hb2);have d0:w2.cell? ⟨w.heap.size,0,none⟩=some (.int .i64 0):=by simp [World.cell?,G0]
 have d1:w2.cell? ⟨w.heap.size,1,none⟩=some (.int .i64 0):=by simp [World.cell?,G0]
 have d2:w2.cell? ⟨w.heap.size,2,none⟩=some (.int .i64 0):=by simp [World.cell?,G0]
 have d3:w2.cell? ⟨w.heap.size,3,none⟩=some (.string ⟨#[]⟩):=by simp [World.cell?,G0]
 have f0:w2.frozen? ⟨w.heap.size,0,none⟩=false:=by simp [World.frozen?,G0]
 have f1:w2.frozen? ⟨w.heap.size,1,none⟩=false:=by simp [World.frozen?,G0]
 have f2:w2.frozen? ⟨w.heap.size,2,none⟩=false:=by simp [World.frozen?,G0]
 have f3:w2.frozen? ⟨w.heap.size,3,none⟩=false:=by simp [World.frozen?,G0]
 have p0:w2.cell? ⟨w1.heap.size,0,none⟩=some (.int .i64 q):=by simp [World.cell?,G1]
 have p1:w2.cell? ⟨w1.heap.size,1,none⟩=some (.int .i64 (p:Int)):=by simp [World.cell?,G1]
 have p2:w2.cell? ⟨w1.heap.size,2,none⟩=some (.int .i64 (n:Int)):=by simp [World.cell?,G1]
 have p3:w2.cell? ⟨w1.heap.size,3,none⟩=some (.string D):=by simp [World.cell?,G1]
 clear hb2 g0 G0 G1 hblk;go_wp2_with fail
 refine bodyPost_ret (v:=.tuple #[.agg #[.int .i64 q,.int .i64 (p:Int),.int .i64 (n:Int),.string D],.int .i64 0]) (by simp [results,results236,go_sem, *]) rfl ⟨rfl,?_⟩;exact (((bm.out.setCell (Nat.le_refl _) _).setCell (Nat.le_refl _) _).setCell (Nat.le_refl _) _).setCell (Nat.le_refl _) _
theorem B7 (s:ByteArray) (w:World) (h:Ub s):Calls prog 236 #[.string s] w fun e w'=>e=.returned (.tuple #[.agg #[.int .i64 (rq s),.int .i64 (bt s 2:Nat),.int .i64 (bt s 3:Nat),.string (yI s)],.int .i64 0])∧Below w.heap.size w w':=
 zM s w h.size h.len (aaw h) h.same
theorem ES (s:ByteArray) (w:World) (h:¬Ub s):Calls prog 236 #[.string s] w fun e w'=>e=.returned (.tuple #[.agg #[.int .i64 0,.int .i64 0,.int .i64 0,.string ⟨#[]⟩],.int .i64 7])∧Below w.heap.size w w':=by
 by_cases h0:s.size=32
 ·by_cases h4:bt s 4≤23
  ·cases hr:rt (rq s) (bt s 2) (bt s 3) (yI s).size with
   | false=>exact xU s w h0 h4 hr
   | true=>exact xV s w h0 h4 hr (fun e=>h ⟨h0,h4,by rw [mF s h0 h4] at hr;exact hr,e⟩)
  ·exact B8 s w h0 (by omega)
 ·exact zL s w h0
theorem QT (s:ByteArray) (i:Nat) (w:World) (h:s.size≤5865) (h1:23 * i≤s.size):Calls prog 122 #[.string s,.int .i64 (i:Int)] w fun e w'=>e=.returned (.string (dt s i))∧w'=w:=by
 have HD:Hid (dt s i=s.extract (23 * i) (min (23 * i+23) s.size)):=rfl;obtain ⟨z,hz⟩:∃z,s.size=z:=⟨_,rfl⟩;obtain ⟨a,ha⟩:∃a,23 * i=a:=⟨_,rfl⟩;rw [hz,ha] at HD;rw [hz] at h;rw [hz,ha] at h1;have e1:(i:Int) * 23=(a:Int):=by omega
 have w1:IntKind.i64.wrap (a:Int)=(a:Int):=Bt.bu _ (by omega) (by omega);have w2:IntKind.i64.wrap ((a:Int)+23)=(a:Int)+23:=Bt.bu _ (by omega) (by omega);have x1:(0:Int)≤(a:Int):=by omega
 clear ha;by_cases hm:(a:Int)+23≤(z:Int)
 ·have x2:min ((a:Int)+23) (z:Int)=(a:Int)+23:=by omega
  have x3:(a:Int)≤(a:Int)+23:=by omega
  have x4:((a:Int)+23).toNat=a+23:=by omega
  have x5:(0:Int)≤(a:Int)+23:=by omega
  have x6:min (a+23) z=a+23:=by omega
  go_enter func122,ntmps122;go_wp2
  go_ret;exact ⟨H5 (by rw [HD.out,x6]),rfl⟩
 ·have x2:min ((a:Int)+23) (z:Int)=(z:Int):=by omega
  have x3:(a:Int)≤(z:Int):=by omega
  have x6:min (a+23) z=z:=by omega
  go_enter func122,ntmps122;go_wp2
  go_ret;exact ⟨H5 (by rw [HD.out,x6]),rfl⟩
set_option maxRecDepth 100000 in
theorem vX (q:Int) (s:ByteArray) (w:World) (hq:gs q=true) (h:s.size≤5865):Calls prog 76 #[.int .i64 q,.string s] w fun e w'=>∃v,e=.returned (.tuple #[v,.int .i64 0])∧ym w' w.heap.size v (eO q s)∧Below w.heap.size w w':=by
 obtain ⟨i0,hi,hz0,hz1,hz2⟩:=info_parts IG;have hg:=fun W=>dQ q W
 rw [hq] at hg;have hp:=fun W=>og (s.size:Int) (by omega) (by omega) W
 obtain ⟨e1,n1,n2,-,-⟩:=cY s.size h;rw [e1] at hp;have hda:∀k,k<np s.size→∀W,Calls prog 122 #[.string s,.int .i64 (k:Int)] W fun e w'=>e=.returned (.string (dt s k))∧w'=W:=fun k hk W=>QT s k W h (OA s.size h k hk).1
 have hbl:∀k,k<np s.size→∀W,Calls prog 121 #[.agg #[.int .i64 q,.int .i64 (k:Int),.int .i64 (np s.size:Int),.string (dt s k)]] W fun e w'=>e=.returned (.tuple #[.string ((eO q s).getD k ⟨#[]⟩),.int .i64 0])∧Below W.heap.size W w':=fun k hk W=>by
  have hb:=sL q k (np s.size:Int) (dt s k) W;rw [dP q s hq h k hk] at hb;rw [xm q s k hk];exact hb
 have hlen:(eO q s).length=np s.size:=ba q s;obtain ⟨n,hn⟩:∃n,np s.size=n:=⟨_,rfl⟩;obtain ⟨B,hB⟩:∃B,eO q s=B:=⟨_,rfl⟩;simp only [hn,hB] at hp hda hbl hlen n1 n2;rw [hB];have HN:Hid (B.length=n):=hlen;have HDA:Hid (∀k,k<n→∀W,Calls prog 122 #[.string s,.int .i64 (k:Int)] W fun e w'=>e=.returned (.string (dt s k))∧w'=W):=hda;have VA:Hid (∀k,k<n→∀W,Calls prog 121 #[.agg #[.int .i64 q,.int .i64 (k:Int),.int .i64 (n:Int),.string (dt s k)]] W fun e w'=>e=.returned (.tuple #[.string (B.getD k ⟨#[]⟩),.int .i64 0])∧Below W.heap.size W w'):=hbl;have n0:((n:Int)==0)=false:=by simp;omega
 clear e1 hn hB hda hbl hlen h hq;go_enter func76,ntmps76;go_wp2_with fail
 refine (hg _).mono ?_;rintro e w1 ⟨rfl,rfl⟩;go_wp2_with fail
 refine (hp _).mono ?_;rintro e w1 ⟨rfl,rfl⟩;clear hg hp;go_wp2_with fail
 go_loopw [7,20] (fun v i wr=>∃k:Nat,k≤n∧i=.int .i64 (k:Int)∧wr.ownsRow w1.heap.size 9 1 v k (bW (B.take k))∧Below w1.heap.size w1 wr) (fun _ i _=>n - (intOf i).toNat)
 case atStart=>exact ⟨0,by omega,rfl,World.ownsRow_nil _ _ _ _,Below.refl _ _⟩
 case round=>
  obtain ⟨k,hk,rfl,hrow,hb⟩:=hrel;have dF:Hid (wr.ownsRow w1.heap.size 9 1 u7 k (bW (B.take k))):=hrow;have HB:Hid (Below w1.heap.size w1 wr):=hb;clear hrow hb;by_cases cE:k<n
  ·have i2:(k:Int)<(n:Int):=by omega
   go_wp2_with fail
   refine (HDA.out k cE _).mono ?_;rintro e w2 ⟨rfl,rfl⟩;go_wp2_with fail
   refine (VA.out k cE _).mono ?_;rintro e w3 ⟨rfl,hb3⟩;have HS:Hid (B.take (k+1)=B.take k++[B.getD k ⟨#[]⟩]):=eC B k _ (by rw [HN.out];exact cE);obtain ⟨X,hX⟩:∃X,B.getD k ⟨#[]⟩=X:=⟨_,rfl⟩;rw [hX] at HS;rw [hX];have jO:Hid (w3.ownsRow w1.heap.size 9 1 u7 k (bW (B.take k))):=aQ dF.out hb3;have dR:Hid (Below w1.heap.size w1 w3):=Below.then HB.out hb3;have hs3:w1.heap.size≤w3.heap.size:=dR.out.size;clear hX hb3;go_wp2_with (at_builtin;refine wpList_append_lies _ rfl _ _ _ rfl w1.heap.size 9 i0 _ 1 16 underlying114 hi hz0 hz1 hz2 rfl (by omega) _ k _ rfl (jO.out.alloc _) ⟨w3.heap.size,0,none⟩ 1 1 [.string X] rfl rfl (fN _ _ _ _ rfl) (by simp [Value.oneCell']) (by omega) (by unfold maxLen;omega) (by omega) (by simp;omega) (w3.heap.size+1) (by simp) ?_;intro g4 LQ w4 tE mY P4 PA;have uu:Hid _:=mY;have HO4:Hid _:=tE;clear tE mY P4 PA)
   go_roundw
   case rel=>
    refine ⟨k+1,by omega,by go_num,?_,?_⟩
    ·rw [HS.out,oO];exact HO4.out
    ·exact (Below.more dR.out _).grown uu.out (by simp;omega) (fun j hj=>(jO.out.lt j hj).1)
   case measure=>simp [intOf];omega
  ·have i2:decide ((k:Int)<(n:Int))=false:=by simp;omega
   go_wp2_with fail
   go_ret2
   refine ⟨_,rfl,?_,HB.out⟩;have e:B.take k=B:=List.take_of_length_le (by rw [HN.out];omega);have hr:=dF.out;rw [e] at hr;obtain rfl:k=n:=by omega
   unfold ym;rw [HN.out];exact hr
theorem LU {T e:TypeId} {B b:Nat} {bs:List Value} {w w':World} (h:Lib.IsBuilderF T e B b bs w) (hb:Below w.heap.size w w'):Lib.IsBuilderF T e B b bs w':=by
 have one:∀p,Lib.BuilderAtF T e B b p bs w→Lib.BuilderAtF T e B b p bs w':=by
  rintro p ⟨hB,v,hblk,hrow,hne⟩;refine ⟨hB,v,(hb.block b (Array.getElem?_eq_some_iff.1 hblk).1).trans hblk,⟨hrow.1,?_⟩,hne⟩;rcases hrow.2 with h0 | ⟨g,cap,cur,fz,hv,hg,hh,rest⟩
  ·exact .inl h0
  ·exact .inr ⟨g,cap,cur,fz,hv,hg,(hb.block g (Array.getElem?_eq_some_iff.1 hh).1).trans hh,rest⟩
 exact h.elim (fun x=>.inl (one _ x)) (fun x=>.inr (one _ x))
def wA (l:List Pc):Ending:=.returned (.tuple #[.int .i64 (l.getD 0 fZ).q,.string ⟨(ct l).toArray⟩,.int .i64 0])
def wB:Ending:=.returned (.tuple #[.int .i64 0,.string ⟨#[]⟩,.int .i64 7])
def WP (l:List Pc) (e:Ending):Prop:=(Wh l∧e=wA l)∨(¬Wh l∧e=wB)
def okI (l:List Pc) (i:Nat):Prop:=rtP (l.getD i fZ)=true∧(l.getD i fZ).q=(l.getD 0 fZ).q∧(l.getD i fZ).p=(i:Int)∧(l.getD i fZ).n=(l.length:Int)
theorem Ar {l:List Pc} {i:Nat} (hi:i<l.length) (h:¬okI l i):¬Wh l:=fun hw=>h (hw.each i hi)
set_option maxRecDepth 100000 in
theorem J0 (a:Option Addr) (cap:Nat) (w:World):Calls prog 183 #[.slice a 0 cap] w fun e w'=>WP [] e∧Below w.heap.size w w':=by
 have jV:Hid (¬Wh []):=fun h=>h.ne rfl
 go_enter func183,ntmps183;go_wp2_with fail
 refine bodyPost_ret (v:=.tuple #[.int .i64 0,.string ⟨#[]⟩,.int .i64 7]) (by simp [results,results183,go_sem]) rfl ⟨.inr ⟨jV.out,rfl⟩,?_⟩;exact Below.refl _ _
set_option maxRecDepth 100000 in
theorem EN (b o cap n:Nat) (l:List Pc) (hn:l.length=n) (h0:0<n) (hl:n≤1152921504606846976) (w:World) (h1:∀i,i<n→Z7 w b (o+i * 4) (l.getD i fZ)):Calls prog 183 #[.slice (some ⟨b,o,none⟩) n cap] w fun e w'=>WP l e∧Below w.heap.size w w':=by
 have HN:Hid (l.length=n):=hn;have H1:Hid (∀i,i<n→Z7 w b (o+i * 4) (l.getD i fZ)):=h1;obtain ⟨p0,-,-,-⟩:=h1 0 h0;obtain ⟨Q,hQ⟩:∃Q,(l.getD 0 fZ).q=Q:=⟨_,rfl⟩;have HQ:Hid ((l.getD 0 fZ).q=Q):=hQ;rw [hQ,Nat.zero_mul,Nat.add_zero] at p0;have i0:(0:Int)<(n:Int):=by omega
 have i1:((n:Int)==0)=false:=by simp;omega
 have dZ:b<w.heap.size:=World.block_lt_of_cell? w _ p0;have HF:Hid (Lib.IsBuilderF 320 5 w.heap.size w.heap.size [] (w.alloc (.cells #[.pointer none,.slice none 0 0] 320))):=Lib.IsBuilderF.of (Lib.fresh_isBuilder 320 5 w);clear hn hQ h1;go_enter func183,ntmps183;go_wp2_with fail
 go_loopw [18] (fun i wr=>∃k:Nat,k≤n∧i=.int .i64 (k:Int)∧(∀j,j<k→okI l j)∧(ct (l.take k)).length≤23 * k∧Lib.IsBuilderF 320 5 w.heap.size w.heap.size (Lib.byteCells (ct (l.take k))) wr∧Below w.heap.size w wr) (fun i _=>n - (intOf i).toNat)
 case atStart=>exact ⟨0,by omega,rfl,fun j hj=>absurd hj (Nat.not_lt_zero _),by simp [ct],by simpa [ct,Lib.byteCells] using HF.out,aX _ _⟩
 case round=>
  obtain ⟨k,hk,rfl,lS,bQ,Ss,hb⟩:=hrel;have iN:Hid (∀j,j<k→okI l j):=lS;have HBD:Hid (Lib.IsBuilderF 320 5 w.heap.size w.heap.size (Lib.byteCells (ct (l.take k))) wr):=Ss;have HB:Hid (Below w.heap.size w wr):=hb;have HCT:Hid ((ct (l.take k)).length≤23 * k):=bQ;clear lS Ss bQ;by_cases cE:k<n
  ·obtain ⟨c0,c1,c2,c3⟩:=(H1.out k cE).later hb;have j1:(0:Int)≤(k:Int):=by omega
   have j2:(k:Int)<(n:Int):=by omega
   have HS:Hid (ct (l.take (k+1))=ct (l.take k)++(l.getD k fZ).d.data.toList):=qV l k (by rw [HN.out];exact cE)
   have HI:Hid (okI l k↔rt (l.getD k fZ).q (l.getD k fZ).p (l.getD k fZ).n (l.getD k fZ).d.size=true∧(l.getD k fZ).q=Q∧(l.getD k fZ).p=(k:Int)∧(l.getD k fZ).n=(n:Int)):=by
    unfold Hid okI rtP;rw [HQ.out,HN.out]
   obtain ⟨q,hq⟩:∃q,(l.getD k fZ).q=q:=⟨_,rfl⟩;obtain ⟨p,hp⟩:∃p,(l.getD k fZ).p=p:=⟨_,rfl⟩;obtain ⟨m,hm⟩:∃m,(l.getD k fZ).n=m:=⟨_,rfl⟩;obtain ⟨d,hd⟩:∃d,(l.getD k fZ).d=d:=⟨_,rfl⟩;rw [hq] at c0;rw [hp] at c1;rw [hm] at c2;rw [hd] at c3;rw [hq,hp,hm,hd] at HI;rw [hd] at HS;clear hq hp hm hd hb;have wJ:=fun W=>eG q p m d W
   have HKN:Hid (k<l.length):=by unfold Hid;rw [HN.out];exact cE
   cases hr:rt q p m d.size with
   | false=>
    have jV:Hid (¬Wh l):=Ar HKN.out (fun h=>by have:=(HI.out.1 h).1;rw [hr] at this;cases this);simp only [hr] at wJ;clear hr;go_wp2_with fail
    refine (wJ _).mono ?_;rintro e w2 ⟨rfl,hb2⟩;go_wp2_with fail
    refine bodyPost_ret (v:=.tuple #[.int .i64 0,.string ⟨#[]⟩,.int .i64 7]) (by simp [results,results183,go_sem]) rfl ⟨.inr ⟨jV.out,rfl⟩,?_⟩;exact Below.then (Below.more HB.out _) hb2
   | true=>
    have HR:Hid (rt q p m d.size=true):=hr;simp only [hr] at wJ;clear hr;go_wp2_with fail
    refine (wJ _).mono ?_;rintro e w2 ⟨rfl,hb2⟩;have d0:w2.cell? ⟨wr.heap.size,0,none⟩=some (.int .i64 q):=cell_later hb2 (by simp [go_sem]);have d1:w2.cell? ⟨wr.heap.size,1,none⟩=some (.int .i64 p):=cell_later hb2 (by simp [go_sem]);have d2:w2.cell? ⟨wr.heap.size,2,none⟩=some (.int .i64 m):=cell_later hb2 (by simp [go_sem]);have d3:w2.cell? ⟨wr.heap.size,3,none⟩=some (.string d):=cell_later hb2 (by simp [go_sem]);have bm:Hid (Below w.heap.size w w2):=Below.then (Below.more HB.out _) hb2;have adG:Hid (Lib.IsBuilderF 320 5 w.heap.size w.heap.size (Lib.byteCells (ct (l.take k))) w2):=LU (HBD.out.alloc _) hb2;clear hb2 wJ c0 c1 c2 c3;by_cases e1:q=Q
    ·subst e1;by_cases e2:p=(k:Int)
     ·subst e2;by_cases e3:m=(n:Int)
      ·subst e3;obtain ⟨r1,r2,r3,r4,r5,r6,r7,r8⟩:=(jv _ _ _ _).1 HR.out;have adz:Hid (okI l k):=HI.out.2 ⟨HR.out,rfl,rfl,rfl⟩;have ad0:d.size≤23:=by omega
       have adI:n≤255:=by omega
       clear r1 r2 r3 r4 r5 r6 r7 r8;have hws:=MC w.heap.size w.heap.size (Lib.byteCells (ct (l.take k))) d w2 adG.out (by rw [Lib.byteCells_length];have:=HCT.out;omega) bm.out.size;go_wp2_with fail
       refine hws.mono ?_;rintro e w3 ⟨rfl,abn,hb3,-⟩
       have adF:Hid (Lib.IsBuilderF 320 5 w.heap.size w.heap.size (Lib.byteCells (ct (l.take (k+1)))) w3):=by
        unfold Hid;rw [HS.out,Lib.byteCells_append,←Lib.strCells_eq];exact .inr abn
       have dR:Hid (Below w.heap.size w w3):=bm.out.trans hb3;clear abn hb3 hws;go_wp2_with fail
       go_roundw
       case rel=>
        refine ⟨k+1,by omega,by go_num,?_,?_,adF.out,dR.out⟩
        ·intro j hj;rcases Nat.lt_or_ge j k with hj' | hj'
         ·exact iN.out j hj'
         ·obtain rfl:j=k:=by omega
          exact adz.out
        ·rw [HS.out,List.length_append,nk];have:=HCT.out;omega
       case measure=>simp [intOf];omega
      ·have jV:Hid (¬Wh l):=Ar HKN.out (fun h=>e3 (HI.out.1 h).2.2.2);have f3:(m !=(n:Int))=true:=by simp [e3]
       clear e3;go_wp2_with fail
       refine bodyPost_ret (v:=.tuple #[.int .i64 0,.string ⟨#[]⟩,.int .i64 7]) (by simp [results,results183,go_sem]) rfl ⟨.inr ⟨jV.out,rfl⟩,?_⟩;exact bm.out
     ·have jV:Hid (¬Wh l):=Ar HKN.out (fun h=>e2 (HI.out.1 h).2.2.1);have f3:(p !=(k:Int))=true:=by simp [e2]
      clear e2;go_wp2_with fail
      refine bodyPost_ret (v:=.tuple #[.int .i64 0,.string ⟨#[]⟩,.int .i64 7]) (by simp [results,results183,go_sem]) rfl ⟨.inr ⟨jV.out,rfl⟩,?_⟩;exact bm.out
    ·have jV:Hid (¬Wh l):=Ar HKN.out (fun h=>e1 (HI.out.1 h).2.1);have f3:(q !=Q)=true:=by simp [e1]
     clear e1;go_wp2_with fail
     refine bodyPost_ret (v:=.tuple #[.int .i64 0,.string ⟨#[]⟩,.int .i64 7]) (by simp [results,results183,go_sem]) rfl ⟨.inr ⟨jV.out,rfl⟩,?_⟩;exact bm.out
  ·have adV:decide ((k:Int)<(n:Int))=false:=by simp;omega
   obtain rfl:k=n:=by omega
   have et:l.take k=l:=List.take_of_length_le (by rw [HN.out];exact Nat.le_refl _);rw [et] at HBD;have HWH:Hid (Wh l):=⟨fun e=>by have:=HN.out;rw [e] at this;simp at this;omega,fun j hj=>iN.out j (by rw [←HN.out];exact hj)⟩;have P3:=Rf w.heap.size w.heap.size (ct l) wr HBD.out HB.out.size;clear et hb;go_wp2_with fail
   refine P3.mono ?_;rintro e w3 ⟨rfl,-,hb3,-⟩;have dR:Hid (Below w.heap.size w w3):=HB.out.trans hb3;clear hb3 P3;go_wp2_with fail
   refine bodyPost_ret (v:=.tuple #[.int .i64 Q,.string ⟨(ct l).toArray⟩,.int .i64 0]) (by simp [results,results183,go_sem]) rfl ⟨.inl ⟨HWH.out,by unfold wA;rw [HQ.out]⟩,dR.out⟩
theorem nV (a:Option Addr) (cap:Nat) (l:List Pc) (hl:l.length≤1152921504606846976) (w:World) (h:oQ w a l):Calls prog 183 #[.slice a l.length cap] w fun e w'=>WP l e∧Below w.heap.size w w':=by
 by_cases h0:l=[]
 ·subst h0;exact J0 a cap w
 ·obtain ⟨b,o,rfl,k1⟩:=h.spot h0;exact EN b o cap l.length l rfl (List.length_pos_iff.2 h0) hl w k1
end Go.Proofs.YtanaapfobpgibaaGreatDoor.Jr
