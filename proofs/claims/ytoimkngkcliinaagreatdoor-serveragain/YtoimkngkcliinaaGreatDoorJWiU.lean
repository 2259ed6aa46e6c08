/- WiU, WiL, WiM, WiO, WiW, WiX, joined. -/
import Derived.Test.YtoimkngkcliinaaGreatDoorHd
import Derived.Test.YtoimkngkcliinaaGreatDoorJWiA
import Derived.Deep.RegionHeld3
import Derived.Test.YtoimkngkcliinaaGreatDoorJBitDone
namespace Go.Proofs.YtoimkngkcliinaaGreatDoor.Wi
open Go.RowKit Go.Maps
open Bt (Rr Kept tb bys tb_length bys_length)
open Rt (gd)
set_option linter.unusedVariables false
set_option linter.unusedSimpArgs false
theorem if_wp {P:Program} {o:Oper} {a:Act} {w:World} {K:Act→World→Prop} {Q:Exit→Act→World→Prop} {c:Prop} [Decidable c] (hc:c) {X:Prop} (h:Oper.wp P o a w K Q):if c then Oper.wp P o a w K Q else X:=by rw [if_pos hc];exact h
theorem wp_stRow0 {o:Oper} {a:Act} {w:World} {K:Act→World→Prop} {Q:Exit→Act→World→Prop} (ty:TypeId) (x y:Operand) (ho:o.op=.store ty x y) (g:Nat) (cells:List Value) (hx:a.eval x=.pointer (some ⟨g,0,none⟩)) (hy:a.eval y=.agg cells.toArray)
  (old:Array Value) (hg:w.heap[g]? =some (.cells old ty (0,0))) (hi:(Tryz.prog.info? ty).map (·.size)=some cells.length) (hold:old.size=cells.length) (h1:cells.all (·.oneCell')=true) (hd:o.dst=none) (h:K a (w.setRow g cells.toArray)):o.wp Tryz.prog a w K Q:=by
 refine wp_store_row ty x y ho g cells.toArray hx hy ty old hg (by simpa using hi) (by simpa using hold) (by simpa using h1) ?_;rw [hd];exact h
theorem cell_row_new (w:World) (cs:Array Value) (t:TypeId):∀j u,cs.toList[j]? =some u→(w.alloc (.cells cs t)).cell? ((⟨w.heap.size,0,none⟩:Addr).add j)=some u:=by
 intro j u hu
 have hadd:(⟨w.heap.size,0,none⟩:Addr).add j=⟨w.heap.size,j,none⟩:=by
  unfold Addr.add;simp;intro h;exact h.symm
 rw [hadd,cell_of_row _ _ j _ _ _ (heap_alloc_last w _)]
 simpa using hu
theorem owns_slice {W:World} {b:Nat} {e:TypeId} {sz:Nat} {v:Value} {n:Nat} {xs:List Value} (h:W.ownsRow b e sz v n xs):∃a cap,v=.slice a n cap:=by
 rcases h.2 with ⟨rfl,rfl⟩ | ⟨g,cap,cur,rfl,_⟩
 ·exact ⟨none,0,rfl⟩
 ·exact ⟨_,cap,rfl⟩
theorem owns_wide {W:World} {b b':Nat} {e:TypeId} {sz:Nat} {v:Value} {n:Nat} {xs:List Value} (h:W.ownsRow b e sz v n xs) (hb:b'≤b):W.ownsRow b' e sz v n xs:=by
 refine ⟨h.1,?_⟩;rcases h.2 with h0 | ⟨g,cap,cur,hv,hg,rest⟩
 ·exact .inl h0
 ·exact .inr ⟨g,cap,cur,hv,Nat.le_trans hb hg,rest⟩
open Bt (Rr Kept tb bys tb_length bys_length tx u8s)
theorem owns_block {W W':World} {b:Nat} {e:TypeId} {sz:Nat} {v:Value} {n:Nat} {xs:List Value} (h:W.ownsRow b e sz v n xs) (hk:∀g,b≤g→g<W.heap.size→W'.heap[g]? =W.heap[g]?):W'.ownsRow b e sz v n xs:=by
 obtain ⟨h1,h2⟩:=h;refine ⟨h1,?_⟩;rcases h2 with h2 | ⟨g,cap,cur,rfl,h3,h4,r⟩
 ·exact .inl h2
 ·exact .inr ⟨g,cap,cur,rfl,h3,(hk g h3 (Array.getElem?_eq_some_iff.1 h4).1).trans h4,r⟩
open Bt (Rr Kept tb bys tb_length bys_length tx u8s dn)
set_option maxRecDepth 4000
/- A list that is owned can be read. -/
theorem flat_at {α:Type} (f:α→List Value) (n:Nat) (hf:∀x,(f x).length=n):∀(l:List α) (i:Nat) (hi:i<l.length) (j:Nat),j<n→(l.flatMap f)[i * n+j]? =(f l[i])[j]?
 | [],i,hi,j,hj=>by cases hi
 | x::l,0,hi,j,hj=>by
  rw [List.flatMap_cons,Nat.zero_mul,Nat.zero_add,List.getElem?_append_left (by rw [hf];exact hj)];rfl
 | x::l,i+1,hi,j,hj=>by
  have e:(i+1) * n+j=n+(i * n+j):=by rw [Nat.succ_mul];omega
  rw [List.flatMap_cons,e,List.getElem?_append_right (by rw [hf];omega),hf,Nat.add_sub_cancel_left];exact flat_at f n hf l i (by simpa using hi) j hj
theorem rd_owns {α:Type} {f:α→List Value} {n:Nat} (hf:∀x,(f x).length=n) {W:World} {b:Nat} {T:TypeId} {a:Option Addr} {cap:Nat} {l:List α} (h:W.ownsRow b T n (.slice a l.length cap) l.length (l.flatMap f)):RdV f n W a l:=by
 intro i hi;rcases h.2 with ⟨e,h0⟩ | ⟨g,cap',cur,e,h3,h4,h5,h6,h7,h8⟩
 ·omega
 ·cases e
  refine ⟨g,0,rfl,fun j v hv=>?_⟩;have hj:j<n:=by have:=(List.getElem?_eq_some_iff.1 hv).1;rw [hf] at this;exact this
  have hlt:i * n+j<l.length * n:=by
   have:(i+1) * n≤l.length * n:=Nat.mul_le_mul_right n hi;rw [Nat.succ_mul] at this;omega
  rw [Nat.zero_add,cell_of_row W g (i * n+j) _ _ _ h4,←hv,←flat_at f n hf l i hi j hj,←h8,List.getElem?_take_of_lt hlt];simp
open Bt (Wr Fw Kept bo bo_length)
/- What a writing leaves: all but the writer's blocks; its new blocks are the old ones or new memory. -/
structure Wst (g:Nat) (W:World) (x:Value) (W':World) (x':Value):Prop where
 kept:Kept (Fw g x) W W'
 own:∀k,Fw g x' k→Fw g x k∨W.heap.size≤k
theorem Wst.refl (g:Nat) (W:World) (x:Value):Wst g W x W x:=⟨Kept.refl _ _,fun k h=>.inl h⟩
theorem Wst.trans {g:Nat} {W W1 W2:World} {x x1 x2:Value} (h:Wst g W x W1 x1) (k:Wst g W1 x1 W2 x2):Wst g W x W2 x2:=
 ⟨h.kept.trans k.kept fun i hi hf=>(h.own i hf).resolve_right (by omega),fun i hi=>by
  rcases k.own i hi with h1 | h1
  ·exact h.own i h1
  ·exact .inr (Nat.le_trans h.kept.size h1)⟩
theorem Wst.alloc {g:Nat} {W W1:World} {x x1:Value} (h:Wst g W x W1 x1) (o:Obj):Wst g W x (W1.alloc o) x1:=⟨h.kept.alloc o,h.own⟩
theorem Wst.below {g N:Nat} {W W1:World} {x x1:Value} (h:Wst g W x W1 x1) (hN:N≤W.heap.size) (hF:∀k,Fw g x k→N≤k):Below N W W1:=h.kept.below hN hF
theorem Wst.row {g k:Nat} {W W1:World} {x x1:Value} {o:Obj} (h:Wst g W x W1 x1) (hk:W.heap[k]? =some o) (hn:¬Fw g x k):W1.heap[k]? =some o:=(h.kept.block k (row_lt hk) hn).trans hk
theorem Wst.nf {g k:Nat} {W W1:World} {x x1:Value} (h:Wst g W x W1 x1) (hk:k<W.heap.size) (hn:¬Fw g x k):¬Fw g x1 k:=fun hf=>by
 rcases h.own k hf with h1 | h1
 ·exact hn h1
 ·omega
/- What a writing answers. -/
def WP (n0 g:Nat) (W:World) (x:Value) (l:List Bool) (W':World):Prop:=∃x',Wr n0 W' g l x'∧Wst g W x W' x'
/- The writer, and two boxes. -/
structure WB (n0 g:Nat) (W0 W:World) (x0 x:Value) (l:List Bool) (C D:Nat) (ac ad:Obj):Prop where
 wr:Wr n0 W g l x
 sz:n0≤W.heap.size
 st:Wst g W0 x0 W x
 hc:W.heap[C]? =some ac
 hd:W.heap[D]? =some ad
 nc:¬Fw g x C
 nd:¬Fw g x D
section
variable {n0 g:Nat} {W0 W W':World} {x0 x:Value} {l l':List Bool} {C D:Nat} {ac ad:Obj}
theorem WB.new2 (h:Wr n0 W g l x) (hn:n0≤W.heap.size) (a b:Obj):WB n0 g W ((W.alloc a).alloc b) x x l W.heap.size (W.heap.size+1) a b where
 wr:=(h.alloc a).alloc b
 sz:=by simp;omega
 st:=((Wst.refl g W x).alloc a).alloc b
 hc:=row_later (heap_alloc_last W a) (below_alloc _ _)
 hd:=by have:=heap_alloc_last (W.alloc a) b;rw [World.size_alloc] at this;exact this
 nc:=fun hf=>by have:=h.inHeap _ hf;omega
 nd:=fun hf=>by have:=h.inHeap _ hf;omega
theorem WB.new1 (h:Wr n0 W g l x) (hn:n0≤W.heap.size) (a:Obj):WB n0 g W (W.alloc a) x x l W.heap.size W.heap.size a a where
 wr:=h.alloc a
 sz:=by simp;omega
 st:=(Wst.refl g W x).alloc a
 hc:=heap_alloc_last W a
 hd:=heap_alloc_last W a
 nc:=fun hf=>by have:=h.inHeap _ hf;omega
 nd:=fun hf=>by have:=h.inHeap _ hf;omega
theorem WB.next (h:WB n0 g W0 W x0 x l C D ac ad) (hp:WP n0 g W x l' W'):∃x',WB n0 g W0 W' x0 x' l' C D ac ad:=by
 obtain ⟨x',hw,hs⟩:=hp;exact ⟨x',hw,Nat.le_trans h.sz hs.kept.size,h.st.trans hs,hs.row h.hc h.nc,hs.row h.hd h.nd,hs.nf (row_lt h.hc) h.nc,hs.nf (row_lt h.hd) h.nd⟩
theorem WB.alloc (h:WB n0 g W0 W x0 x l C D ac ad) (o:Obj):WB n0 g W0 (W.alloc o) x0 x l C D ac ad:=
 ⟨h.wr.alloc o,by have:=h.sz;simp;omega,h.st.alloc o,row_later h.hc (below_alloc _ _),row_later h.hd (below_alloc _ _),h.nc,h.nd⟩
theorem WB.later (h:WB n0 g W0 W x0 x l C D ac ad) (hb:Below W.heap.size W W'):WB n0 g W0 W' x0 x l C D ac ad:=
 ⟨h.wr.kept (Kept.ofBelow (F:=fun _=>False) hb) (fun _ _ h=>h),Nat.le_trans h.sz hb.size,h.st.trans ⟨Kept.ofBelow hb,fun k hk=>.inl hk⟩,row_later h.hc hb,row_later h.hd hb,h.nc,h.nd⟩
theorem WB.out (h:WB n0 g W0 W x0 x l C D ac ad):WP n0 g W0 x0 l W:=⟨x,h.wr,h.st⟩
end
theorem put_wp (n0 g v n:Nat) (l:List Bool) (x:Value) (w:World) (h1:1≤n) (h2:n≤64) (hv:v<2^n) (hB:n0≤w.heap.size) (hw:Wr n0 w g l x) (hl:l.length+n≤1099511627776):
  Calls Tryz.prog 215 #[.pointer (some ⟨g,0,none⟩),.int .u64 (v:Int),.int .i64 (n:Int)] w fun e w'=>e=.returned (.int .i64 0)∧WP n0 g w x (l++bo v n) w':=by
 refine (Bt.put_yes n0 g v n l x w h1 h2 hv hB hw hl).mono ?_;rintro e w' ⟨rfl,x',hw',hk,ho⟩;refine ⟨rfl,x',hw',hk,fun k hf=>?_⟩;rcases hf with rfl | hf
 ·exact .inl (.inl rfl)
 ·rcases ho with ho | ho
  ·exact .inl (.inr (by rw [←ho];exact hf))
  ·exact .inr (ho k hf)
theorem c1' {w:World} {B:Nat} {a:Value} {t:TypeId} (h:w.heap[B]? =some (.cells #[a] t (0,0))):w.cell? ⟨B,0,none⟩=some a:=cell_of_row w B 0 _ _ _ h
theorem c2' {w:World} {B:Nat} {a b:Value} {t:TypeId} (h:w.heap[B]? =some (.cells #[a,b] t (0,0))):w.cell? ⟨B,0,none⟩=some a∧w.cell? ⟨B,1,none⟩=some b:=⟨cell_of_row w B 0 _ _ _ h,cell_of_row w B 1 _ _ _ h⟩
set_option maxRecDepth 100000 in
theorem wNumber_any (n0 g v n:Nat) (l:List Bool) (x:Value) (w:World) (h1:1≤n) (h2:n≤60) (hv:v<2^n) (hB:n0≤w.heap.size) (hw:Wr n0 w g l x) (hl:l.length+n≤1099511627776):
  Calls Tryz.prog 163 #[.agg #[.pointer (some ⟨g,0,none⟩)],.int .i64 (v:Int),.int .i64 (n:Int)] w fun e w'=>e=.returned (.tuple #[])∧WP n0 g w x (l++bo v n) w':=by
 have hb:=WB.new1 hw hB (.cells #[.pointer (some ⟨g,0,none⟩)] 290);have hv60:v<1152921504606846976:=Nat.lt_of_lt_of_le hv (by have:=Nat.pow_le_pow_right (n:=2) (by decide) h2;simpa using this);have hwv:IntKind.u64.wrap (v:Int)=(v:Int):=by rw [IntKind.wrap_u64];omega
 have hp:=put_wp n0 g v n l x (w.alloc (.cells #[.pointer (some ⟨g,0,none⟩)] 290)) h1 (by omega) hv hb.sz hb.wr hl;have HB:Hid (WB n0 g w (w.alloc (.cells #[.pointer (some ⟨g,0,none⟩)] 290)) x x l w.heap.size w.heap.size (.cells #[.pointer (some ⟨g,0,none⟩)] 290) (.cells #[.pointer (some ⟨g,0,none⟩)] 290)):=hb;clear hb hv hw hl hB h1 h2;go_enter Tryz.func163,Tryz.ntmps163;go_wp2_with fail
 refine hp.mono ?_;rintro e w2 ⟨rfl,hp2⟩;have HP:Hid (WP n0 g w x (l++bo v n) w2):=(HB.out.next hp2).elim fun _ h=>h.out
 clear hp hp2;go_wp2_with fail
 go_end0
 exact ⟨rfl,HP.out⟩
set_option maxRecDepth 100000 in
theorem wKey_any (n0 g:Nat) (k:Int×Int) (l:List Bool) (x:Value) (w:World) (hk:gK k=true) (hB:n0≤w.heap.size) (hw:Wr n0 w g l x) (hl:l.length+24≤1099511627776):
  Calls Tryz.prog 221 #[.agg #[.pointer (some ⟨g,0,none⟩)],.agg #[.int .i64 k.1,.int .i64 k.2]] w fun e w'=>e=.returned (.tuple #[])∧WP n0 g w x (l++eK k) w':=by
 have hk':=gK_iff.1 hk;obtain ⟨b,s⟩:=k;dsimp only at *;have HE:Hid (eK (b,s)=bo (b.toNat * 256+s.toNat) 24):=(key_bits _ _ (by omega)).symm;rw [HE.out];have e0:b * 256+s=((b.toNat * 256+s.toNat:Nat):Int):=by omega
 have hpk:=Rt.pack_yes b s (by unfold Rt.Gd;omega);rw [e0] at hpk;have hv:b.toNat * 256+s.toNat<2^24:=by omega
 generalize b.toNat * 256+s.toNat=v at *;have hwv:IntKind.i64.wrap (v:Int)=(v:Int):=Bt.wrap_fit _ (by omega) (by omega);have hb:=WB.new2 hw hB (.cells #[.pointer (some ⟨g,0,none⟩)] 290) (.cells #[.int .i64 b,.int .i64 s] 46);clear e0 HE hk hk' hw hB;go_enter Tryz.func221,Tryz.ntmps221;go_upto_region 1 with (fail)
 generalize (w.alloc (.cells #[.pointer (some ⟨g,0,none⟩)] 290)).alloc (.cells #[.int .i64 b,.int .i64 s] 46)=w1 at *;obtain ⟨D,hD⟩:∃D,w.heap.size+1=D:=⟨_,rfl⟩;rw [hD] at hb ⊢;obtain ⟨C,hC⟩:∃C,w.heap.size=C:=⟨_,rfl⟩;rw [hC] at hb ⊢;clear hD hC;obtain ⟨d0,d1⟩:=c2' hb.hd;have HB:Hid (WB n0 g w w1 x x l C D (.cells #[.pointer (some ⟨g,0,none⟩)] 290) (.cells #[.int .i64 b,.int .i64 s] 46)):=hb;clear hb;have hpk:=hpk w1;go_wp2_with fail
 refine hpk.mono ?_;rintro e w2 ⟨rfl,hw2⟩;have hb2:=HB.out.later (W':=w2) (by rw [hw2];exact Below.plus (below_alloc _ _) _);have c0:=c1' hb2.hc;have hp:=wNumber_any n0 g v 24 l x w2 (by omega) (by omega) hv hb2.sz hb2.wr hl;have HB2:Hid (WB n0 g w w2 x x l C D (.cells #[.pointer (some ⟨g,0,none⟩)] 290) (.cells #[.int .i64 b,.int .i64 s] 46)):=hb2;clear hb2 hw2 hpk d0 d1 HB;go_wp2_with fail
 refine hp.mono ?_;rintro e w3 ⟨rfl,hp2⟩;have HP:Hid (WP n0 g w x (l++bo v 24) w3):=(HB2.out.next hp2).elim fun _ h=>h.out
 clear hp hp2;go_wp2_with fail
 go_end0
 exact ⟨rfl,HP.out⟩
set_option maxRecDepth 100000 in
theorem wBox_any (n0 g:Nat) (k:(Int×Int)×(Int×Int)) (l:List Bool) (x:Value) (w:World) (hk:gB k=true) (hB:n0≤w.heap.size) (hw:Wr n0 w g l x) (hl:l.length+48≤1099511627776):
  Calls Tryz.prog 220 #[.agg #[.pointer (some ⟨g,0,none⟩)],.agg #[.int .i64 k.1.1,.int .i64 k.1.2,.int .i64 k.2.1,.int .i64 k.2.2]] w fun e w'=>e=.returned (.tuple #[])∧WP n0 g w x (l++eB k) w':=by
 have hk':=gB_iff.1 hk;obtain ⟨⟨a,b⟩,c,d⟩:=k;dsimp only at *;have HE:Hid (l++eB ((a,b),c,d)=l++eK (a,b)++eK (c,d)):=by unfold Hid eB;rw [List.append_assoc]
 have HK:Hid (gK (a,b)=true∧gK (c,d)=true):=hk';rw [HE.out];have hb:=WB.new2 hw hB (.cells #[.pointer (some ⟨g,0,none⟩)] 290) (.cells #[.int .i64 a,.int .i64 b,.int .i64 c,.int .i64 d] 85);clear HE hk hk' hw hB;have hl2:(l++eK (a,b)).length+24≤1099511627776:=by rw [List.length_append];simp [eK];omega
 go_enter Tryz.func220,Tryz.ntmps220;go_upto_region 1 with (fail)
 generalize (w.alloc (.cells #[.pointer (some ⟨g,0,none⟩)] 290)).alloc (.cells #[.int .i64 a,.int .i64 b,.int .i64 c,.int .i64 d] 85)=w1 at *;obtain ⟨D,hD⟩:∃D,w.heap.size+1=D:=⟨_,rfl⟩;rw [hD] at hb ⊢;obtain ⟨C,hC⟩:∃C,w.heap.size=C:=⟨_,rfl⟩;rw [hC] at hb ⊢;clear hD hC;obtain ⟨d0,d1,d2,d3⟩:=c4 hb.hd;have c0:=c1' hb.hc;have hp:=wKey_any n0 g (a,b) l x w1 HK.out.1 hb.sz hb.wr (by omega);have HB:Hid (WB n0 g w w1 x x l C D (.cells #[.pointer (some ⟨g,0,none⟩)] 290) (.cells #[.int .i64 a,.int .i64 b,.int .i64 c,.int .i64 d] 85)):=hb;clear hb;dsimp only at hp;go_wp2_with fail
 refine hp.mono ?_;rintro e w2 ⟨rfl,hp2⟩;obtain ⟨x2,hb2⟩:=HB.out.next hp2;clear hp hp2 HB c0 d0 d1 d2 d3;obtain ⟨d0,d1,d2,d3⟩:=c4 hb2.hd;have c0:=c1' hb2.hc;have hp:=wKey_any n0 g (c,d) (l++eK (a,b)) x2 w2 HK.out.2 hb2.sz hb2.wr hl2;have HB:Hid (WB n0 g w w2 x x2 (l++eK (a,b)) C D (.cells #[.pointer (some ⟨g,0,none⟩)] 290) (.cells #[.int .i64 a,.int .i64 b,.int .i64 c,.int .i64 d] 85)):=hb2;clear hb2;dsimp only at hp;go_wp2_with fail
 refine hp.mono ?_;rintro e w3 ⟨rfl,hp2⟩;have HP:Hid (WP n0 g w x (l++eK (a,b)++eK (c,d)) w3):=(HB.out.next hp2).elim fun _ h=>h.out
 clear hp hp2;go_wp2_with fail
 go_end0
 exact ⟨rfl,HP.out⟩
def oS (s:Int×Int):Prop:=fitI 8 s.1∧fitI 6 s.2
def oI (i:(Int×Int)×((Int×Int)×(Int×Int))):Prop:=(fitI 5 i.1.1∧fitI 7 i.1.2)∧(gK i.2.1=true∧gK i.2.2=true)
theorem fit_nat {q:Nat} {v:Int} (h:fitI q v):∃n:Nat,v=(n:Int)∧v.toNat=n∧n<2^q:=by
 obtain ⟨a,b⟩:=h;have e:((v.toNat:Nat):Int)=v:=Int.toNat_of_nonneg a;refine ⟨v.toNat,e.symm,rfl,?_⟩;have:((v.toNat:Nat):Int)<((2^q:Nat):Int):=by rw [e];simpa using b
 exact Int.ofNat_lt.1 this
set_option maxRecDepth 100000 in
theorem wSeat_any (n0 g:Nat) (k:Int×Int) (l:List Bool) (x:Value) (w:World) (hk:oS k) (hB:n0≤w.heap.size) (hw:Wr n0 w g l x) (hl:l.length+14≤1099511627776):
  Calls Tryz.prog 217 #[.agg #[.pointer (some ⟨g,0,none⟩)],.agg #[.int .i64 k.1,.int .i64 k.2]] w fun e w'=>e=.returned (.tuple #[])∧WP n0 g w x (l++eS k) w':=by
 obtain ⟨a,b⟩:=k;obtain ⟨h1,h2⟩:=hk;obtain ⟨u,rfl,eu,hu⟩:=fit_nat h1;obtain ⟨v,rfl,ev,hv⟩:=fit_nat h2;dsimp only at *;have HE:Hid (l++eS ((u:Int),(v:Int))=l++bo u 8++bo v 6):=by unfold Hid eS;dsimp only;rw [eu,ev,List.append_assoc]
 rw [HE.out];have hb:=WB.new2 hw hB (.cells #[.pointer (some ⟨g,0,none⟩)] 290) (.cells #[.int .i64 (u:Int),.int .i64 (v:Int)] 165);clear HE h1 h2 hw hB eu ev;have hl2:(l++bo u 8).length+6≤1099511627776:=by rw [List.length_append,bo_length];omega
 go_enter Tryz.func217,Tryz.ntmps217;go_upto_region 1 with (fail)
 generalize (w.alloc (.cells #[.pointer (some ⟨g,0,none⟩)] 290)).alloc (.cells #[.int .i64 (u:Int),.int .i64 (v:Int)] 165)=w1 at *;obtain ⟨D,hD⟩:∃D,w.heap.size+1=D:=⟨_,rfl⟩;rw [hD] at hb ⊢;obtain ⟨C,hC⟩:∃C,w.heap.size=C:=⟨_,rfl⟩;rw [hC] at hb ⊢;clear hD hC;obtain ⟨d0,d1⟩:=c2' hb.hd;have c0:=c1' hb.hc;have hp:=wNumber_any n0 g u 8 l x w1 (by omega) (by omega) hu hb.sz hb.wr (by omega);have HB:Hid (WB n0 g w w1 x x l C D (.cells #[.pointer (some ⟨g,0,none⟩)] 290) (.cells #[.int .i64 (u:Int),.int .i64 (v:Int)] 165)):=hb;clear hb;go_wp2_with fail
 refine hp.mono ?_;rintro e w2 ⟨rfl,hp2⟩;obtain ⟨x2,hb2⟩:=HB.out.next hp2;clear hp hp2 HB c0 d0 d1;obtain ⟨d0,d1⟩:=c2' hb2.hd;have c0:=c1' hb2.hc;have hp:=wNumber_any n0 g v 6 (l++bo u 8) x2 w2 (by omega) (by omega) hv hb2.sz hb2.wr hl2;have HB:Hid (WB n0 g w w2 x x2 (l++bo u 8) C D (.cells #[.pointer (some ⟨g,0,none⟩)] 290) (.cells #[.int .i64 (u:Int),.int .i64 (v:Int)] 165)):=hb2;clear hb2;go_wp2_with fail
 refine hp.mono ?_;rintro e w3 ⟨rfl,hp2⟩;have HP:Hid (WP n0 g w x (l++bo u 8++bo v 6) w3):=(HB.out.next hp2).elim fun _ h=>h.out
 clear hp hp2;go_wp2_with fail
 go_end0
 exact ⟨rfl,HP.out⟩
theorem c6 {w:World} {B:Nat} {a b c d e f:Value} {t:TypeId} (h:w.heap[B]? =some (.cells #[a,b,c,d,e,f] t (0,0))):w.cell? ⟨B,0,none⟩=some a∧w.cell? ⟨B,1,none⟩=some b∧w.cell? ⟨B,2,none⟩=some c∧w.cell? ⟨B,3,none⟩=some d∧w.cell? ⟨B,4,none⟩=some e∧w.cell? ⟨B,5,none⟩=some f:=
 ⟨cell_of_row w B 0 _ _ _ h,cell_of_row w B 1 _ _ _ h,cell_of_row w B 2 _ _ _ h,cell_of_row w B 3 _ _ _ h,cell_of_row w B 4 _ _ _ h,cell_of_row w B 5 _ _ _ h⟩
set_option maxRecDepth 100000 in
theorem wItem_any (n0 g:Nat) (k:(Int×Int)×((Int×Int)×(Int×Int))) (l:List Bool) (x:Value) (w:World) (hk:oI k) (hB:n0≤w.heap.size) (hw:Wr n0 w g l x) (hl:l.length+60≤1099511627776):
  Calls Tryz.prog 219 #[.agg #[.pointer (some ⟨g,0,none⟩)],.agg #[.int .i64 k.1.1,.int .i64 k.1.2,.int .i64 k.2.1.1,.int .i64 k.2.1.2,.int .i64 k.2.2.1,.int .i64 k.2.2.2]] w fun e w'=>e=.returned (.tuple #[])∧WP n0 g w x (l++eI k) w':=by
 obtain ⟨⟨a,b⟩,p⟩:=k;obtain ⟨⟨h1,h2⟩,h3,h4⟩:=hk;obtain ⟨u,rfl,eu,hu⟩:=fit_nat h1;obtain ⟨v,rfl,ev,hv⟩:=fit_nat h2;dsimp only at *;have HE:Hid (l++eI (((u:Int),(v:Int)),p)=l++bo u 5++bo v 7++eB p):=by unfold Hid eI;dsimp only;rw [eu,ev];simp
 have HK:Hid (gB p=true):=gB_iff.2 ⟨h3,h4⟩;rw [HE.out];have hb:=WB.new2 hw hB (.cells #[.pointer (some ⟨g,0,none⟩)] 290) (.cells #[.int .i64 (u:Int),.int .i64 (v:Int),.int .i64 p.1.1,.int .i64 p.1.2,.int .i64 p.2.1,.int .i64 p.2.2] 121);have HO:∃o,o=Obj.cells #[.int .i64 (u:Int),.int .i64 (v:Int),.int .i64 p.1.1,.int .i64 p.1.2,.int .i64 p.2.1,.int .i64 p.2.2] 121:=⟨_,rfl⟩;clear HE h1 h2 h3 h4 hw hB eu ev;have hl2:(l++bo u 5).length+7≤1099511627776:=by rw [List.length_append,bo_length];omega
 have hl3:(l++bo u 5++bo v 7).length+48≤1099511627776:=by rw [List.length_append,List.length_append,bo_length,bo_length];omega
 go_enter Tryz.func219,Tryz.ntmps219;go_upto_region 1 with (fail)
 generalize (w.alloc (.cells #[.pointer (some ⟨g,0,none⟩)] 290)).alloc (.cells #[.int .i64 (u:Int),.int .i64 (v:Int),.int .i64 p.1.1,.int .i64 p.1.2,.int .i64 p.2.1,.int .i64 p.2.2] 121)=w1 at *;obtain ⟨D,hD⟩:∃D,w.heap.size+1=D:=⟨_,rfl⟩;rw [hD] at hb ⊢;obtain ⟨C,hC⟩:∃C,w.heap.size=C:=⟨_,rfl⟩;rw [hC] at hb ⊢;clear hD hC;obtain ⟨OD,hOD⟩:=HO;rw [←hOD] at hb;have HOD:Hid (OD=Obj.cells #[.int .i64 (u:Int),.int .i64 (v:Int),.int .i64 p.1.1,.int .i64 p.1.2,.int .i64 p.2.1,.int .i64 p.2.2] 121):=hOD;clear hOD;obtain ⟨d0,d1,d2,d3,d4,d5⟩:=c6 (HOD.out ▸ hb.hd);have c0:=c1' hb.hc;have hp:=wNumber_any n0 g u 5 l x w1 (by omega) (by omega) hu hb.sz hb.wr (by omega);have HB:Hid (WB n0 g w w1 x x l C D (.cells #[.pointer (some ⟨g,0,none⟩)] 290) OD):=hb;clear hb;go_wp2_with fail
 refine hp.mono ?_;rintro e w2 ⟨rfl,hp2⟩;obtain ⟨x2,hb2⟩:=HB.out.next hp2;clear hp hp2 HB c0 d0 d1 d2 d3 d4 d5;obtain ⟨d0,d1,d2,d3,d4,d5⟩:=c6 (HOD.out ▸ hb2.hd);have c0:=c1' hb2.hc;have hp:=wNumber_any n0 g v 7 (l++bo u 5) x2 w2 (by omega) (by omega) hv hb2.sz hb2.wr hl2;have HB:Hid (WB n0 g w w2 x x2 (l++bo u 5) C D (.cells #[.pointer (some ⟨g,0,none⟩)] 290) OD):=hb2;clear hb2;go_wp2_with fail
 refine hp.mono ?_;rintro e w3 ⟨rfl,hp3⟩;obtain ⟨x3,hb3⟩:=HB.out.next hp3;clear hp hp3 HB c0 d0 d1 d2 d3 d4 d5;obtain ⟨d0,d1,d2,d3,d4,d5⟩:=c6 (HOD.out ▸ hb3.hd);have c0:=c1' hb3.hc;have hp:=wBox_any n0 g p (l++bo u 5++bo v 7) x3 w3 HK.out hb3.sz hb3.wr hl3;have HB:Hid (WB n0 g w w3 x x3 (l++bo u 5++bo v 7) C D (.cells #[.pointer (some ⟨g,0,none⟩)] 290) OD):=hb3;clear hb3;go_wp2_with fail
 refine hp.mono ?_;rintro e w4 ⟨rfl,hp4⟩;have HP:Hid (WP n0 g w x (l++bo u 5++bo v 7++eB p) w4):=(HB.out.next hp4).elim fun _ h=>h.out
 clear hp hp4;go_wp2_with fail
 go_end0
 exact ⟨rfl,HP.out⟩
theorem flat_len' {α:Type} (f:α→List Bool) (k:Nat) (h:∀x,(f x).length=k):∀l:List α,(l.flatMap f).length=k * l.length
 | []=>by simp
 | x::l=>by rw [List.flatMap_cons,List.length_append,h,flat_len' f k h l,List.length_cons,Nat.mul_succ,Nat.add_comm]
theorem flat_take {α:Type} (f:α→List Bool) {l:List α} {k:Nat} (h:k<l.length):(l.take (k+1)).flatMap f=(l.take k).flatMap f++f l[k]:=by
 rw [List.take_succ_eq_append_getElem h,flat_snoc]
set_option maxRecDepth 100000 in
set_option maxHeartbeats 1000000 in
theorem putS_any (n0 g q:Nat) (a:Option Addr) (c:Nat) (L:List (Int×Int)) (l:List Bool) (x:Value) (w:World) (h1:1≤q) (h2:q≤60) (hn:L.length<2^q) (hL:L.length≤2048) (hf:∀s∈L,oS s) (hrd:∀W' x',Wst g w x W' x'→RdV stl 2 W' a L) (hB:n0≤w.heap.size) (hw:Wr n0 w g l x) (hl:l.length+1048576≤1099511627776):
  Calls Tryz.prog 216 #[.agg #[.pointer (some ⟨g,0,none⟩)],.slice a L.length c,.int .i64 (q:Int),.func (.func 217) #[.agg #[.pointer (some ⟨g,0,none⟩)]] #[]] w fun e w'=>e=.returned (.tuple #[])∧WP n0 g w x (l++(bo L.length q++L.flatMap eS)) w':=by
 obtain ⟨n,hne⟩:∃n,L.length=n:=⟨_,rfl⟩;have HN:Hid (L.length=n):=hne;have HE:Hid (l++(bo L.length q++L.flatMap eS)=l++bo n q++L.flatMap eS):=by unfold Hid;rw [hne,List.append_assoc]
 rw [HE.out];rw [hne] at hn hL;rw [hne];clear hne HE;have HF:Hid (∀s∈L,oS s):=hf;have HRD:Hid (∀W' x',Wst g w x W' x'→RdV stl 2 W' a L):=hrd;have hb:=WB.new1 hw hB (.cells #[.pointer (some ⟨g,0,none⟩)] 290);clear hf hrd hw hB;go_enter Tryz.func216,Tryz.ntmps216;go_upto_region 1 with (fail)
 generalize w.alloc (.cells #[.pointer (some ⟨g,0,none⟩)] 290)=w1 at *;obtain ⟨C,hC⟩:∃C,w.heap.size=C:=⟨_,rfl⟩;rw [hC] at hb ⊢;clear hC;obtain ⟨OC,hOC⟩:∃o,o=Obj.cells #[.pointer (some ⟨g,0,none⟩)] 290:=⟨_,rfl⟩;rw [←hOC] at hb;have HOC:Hid (OC=Obj.cells #[.pointer (some ⟨g,0,none⟩)] 290):=hOC;clear hOC;have c0:=c1' (HOC.out ▸ hb.hc);have hp:=wNumber_any n0 g n q l x w1 h1 h2 hn hb.sz hb.wr (by omega);have HB:Hid (WB n0 g w w1 x x l C C OC OC):=hb;clear hb;go_wp2_with fail
 refine hp.mono ?_;rintro e w2 ⟨rfl,hp2⟩
 have HS:Hid (∃x',WB n0 g w w2 x x' (l++bo n q++(L.take 0).flatMap eS) C C OC OC):=by
  obtain ⟨x2,hb2⟩:=HB.out.next hp2;exact ⟨x2,by simpa using hb2⟩
 clear hp hp2 HB c0;go_wp2_with fail
 go_loopw [17] (fun i wx=>∃k:Nat,k≤n∧i=.int .i64 (k:Int)∧∃x',WB n0 g w wx x x' (l++bo n q++(L.take k).flatMap eS) C C OC OC) (fun i _=>n - (intOf i).toNat)
 case atStart=>exact ⟨0,by omega,rfl,HS.out⟩
 case round=>
  obtain ⟨k,hk,rfl,x2,hb2⟩:=hrel;have HB:Hid (WB n0 g w wr x x2 (l++bo n q++(L.take k).flatMap eS) C C OC OC):=hb2;clear hb2 HS;by_cases hkn:k<n
  ·have hkl:k<L.length:=by rw [HN.out];exact hkn
   obtain ⟨b,o,rfl,hr⟩:=HRD.out wr x2 HB.out.st k hkl;have HX:Hid (l++bo n q++(L.take (k+1)).flatMap eS=l++bo n q++(L.take k).flatMap eS++eS L[k]):=by unfold Hid;rw [flat_take _ hkl];simp
   have hok:=HF.out L[k] (List.getElem_mem hkl)
   have hlen:(l++bo n q++(L.take k).flatMap eS).length+14≤1099511627776:=by
    have e:=flat_len' eS 14 (fun _=>by simp [eS,eS,eI,eB,eK]) (L.take k);rw [List.length_append,List.length_append,bo_length,e,List.length_take,HN.out,Nat.min_eq_left hk];omega
   generalize L[k]=p at *;generalize l++bo n q++(L.take k).flatMap eS=l2 at *;unfold stl at hr;have i1:(0:Int)≤(k:Int):=by omega
   have i2:(k:Int)<(n:Int):=by omega
   have hp:=fun o=>wSeat_any n0 g p l2 x2 (wr.alloc o) hok (HB.out.alloc o).sz (HB.out.alloc o).wr hlen
   clear hok hlen;go_wp2_with (refine ldM hr Tryz.underlying165 rfl szSeat _ rfl rfl rfl ?_)
   refine (hp _).mono ?_;rintro e w4 ⟨rfl,hp4⟩;have HS:Hid (∃x',WB n0 g w w4 x x' (l++bo n q++(L.take (k+1)).flatMap eS) C C OC OC):=by unfold Hid;rw [HX.out];exact (HB.out.alloc _).next hp4
   clear hp4 hp hr;go_wp2_with fail
   go_roundw
   case rel=>exact ⟨k+1,by omega,by go_num,HS.out⟩
   case measure=>simp [intOf];omega
  ·have hkn':decide ((k:Int)<(n:Int))=false:=by simp;omega
   have HP:Hid (WP n0 g w x (l++bo n q++L.flatMap eS) wr):=by
    have e:L.take k=L:=List.take_of_length_le (by rw [HN.out];omega);have h:=HB.out.out;rw [e] at h;exact h
   go_wp2_with fail
   go_end0
   exact ⟨rfl,HP.out⟩
set_option maxRecDepth 100000 in
set_option maxHeartbeats 1000000 in
theorem putI_any (n0 g q:Nat) (a:Option Addr) (c:Nat) (L:List ((Int×Int)×((Int×Int)×(Int×Int)))) (l:List Bool) (x:Value) (w:World) (h1:1≤q) (h2:q≤60) (hn:L.length<2^q) (hL:L.length≤2048) (hf:∀s∈L,oI s) (hrd:∀W' x',Wst g w x W' x'→RdV itl 6 W' a L) (hB:n0≤w.heap.size) (hw:Wr n0 w g l x) (hl:l.length+1048576≤1099511627776):
  Calls Tryz.prog 218 #[.agg #[.pointer (some ⟨g,0,none⟩)],.slice a L.length c,.int .i64 (q:Int),.func (.func 219) #[.agg #[.pointer (some ⟨g,0,none⟩)]] #[]] w fun e w'=>e=.returned (.tuple #[])∧WP n0 g w x (l++(bo L.length q++L.flatMap eI)) w':=by
 obtain ⟨n,hne⟩:∃n,L.length=n:=⟨_,rfl⟩;have HN:Hid (L.length=n):=hne;have HE:Hid (l++(bo L.length q++L.flatMap eI)=l++bo n q++L.flatMap eI):=by unfold Hid;rw [hne,List.append_assoc]
 rw [HE.out];rw [hne] at hn hL;rw [hne];clear hne HE;have HF:Hid (∀s∈L,oI s):=hf;have HRD:Hid (∀W' x',Wst g w x W' x'→RdV itl 6 W' a L):=hrd;have hb:=WB.new1 hw hB (.cells #[.pointer (some ⟨g,0,none⟩)] 290);clear hf hrd hw hB;go_enter Tryz.func218,Tryz.ntmps218;go_upto_region 1 with (fail)
 generalize w.alloc (.cells #[.pointer (some ⟨g,0,none⟩)] 290)=w1 at *;obtain ⟨C,hC⟩:∃C,w.heap.size=C:=⟨_,rfl⟩;rw [hC] at hb ⊢;clear hC;obtain ⟨OC,hOC⟩:∃o,o=Obj.cells #[.pointer (some ⟨g,0,none⟩)] 290:=⟨_,rfl⟩;rw [←hOC] at hb;have HOC:Hid (OC=Obj.cells #[.pointer (some ⟨g,0,none⟩)] 290):=hOC;clear hOC;have c0:=c1' (HOC.out ▸ hb.hc);have hp:=wNumber_any n0 g n q l x w1 h1 h2 hn hb.sz hb.wr (by omega);have HB:Hid (WB n0 g w w1 x x l C C OC OC):=hb;clear hb;go_wp2_with fail
 refine hp.mono ?_;rintro e w2 ⟨rfl,hp2⟩
 have HS:Hid (∃x',WB n0 g w w2 x x' (l++bo n q++(L.take 0).flatMap eI) C C OC OC):=by
  obtain ⟨x2,hb2⟩:=HB.out.next hp2;exact ⟨x2,by simpa using hb2⟩
 clear hp hp2 HB c0;go_wp2_with fail
 go_loopw [17] (fun i wx=>∃k:Nat,k≤n∧i=.int .i64 (k:Int)∧∃x',WB n0 g w wx x x' (l++bo n q++(L.take k).flatMap eI) C C OC OC) (fun i _=>n - (intOf i).toNat)
 case atStart=>exact ⟨0,by omega,rfl,HS.out⟩
 case round=>
  obtain ⟨k,hk,rfl,x2,hb2⟩:=hrel;have HB:Hid (WB n0 g w wr x x2 (l++bo n q++(L.take k).flatMap eI) C C OC OC):=hb2;clear hb2 HS;by_cases hkn:k<n
  ·have hkl:k<L.length:=by rw [HN.out];exact hkn
   obtain ⟨b,o,rfl,hr⟩:=HRD.out wr x2 HB.out.st k hkl;have HX:Hid (l++bo n q++(L.take (k+1)).flatMap eI=l++bo n q++(L.take k).flatMap eI++eI L[k]):=by unfold Hid;rw [flat_take _ hkl];simp
   have hok:=HF.out L[k] (List.getElem_mem hkl)
   have hlen:(l++bo n q++(L.take k).flatMap eI).length+60≤1099511627776:=by
    have e:=flat_len' eI 60 (fun _=>by simp [eI,eS,eI,eB,eK]) (L.take k);rw [List.length_append,List.length_append,bo_length,e,List.length_take,HN.out,Nat.min_eq_left hk];omega
   generalize L[k]=p at *;generalize l++bo n q++(L.take k).flatMap eI=l2 at *;unfold itl at hr;have i1:(0:Int)≤(k:Int):=by omega
   have i2:(k:Int)<(n:Int):=by omega
   have hp:=fun o=>wItem_any n0 g p l2 x2 (wr.alloc o) hok (HB.out.alloc o).sz (HB.out.alloc o).wr hlen
   clear hok hlen;go_wp2_with (refine ldM hr Tryz.underlying121 rfl szItem _ rfl rfl rfl ?_)
   refine (hp _).mono ?_;rintro e w4 ⟨rfl,hp4⟩;have HS:Hid (∃x',WB n0 g w w4 x x' (l++bo n q++(L.take (k+1)).flatMap eI) C C OC OC):=by unfold Hid;rw [HX.out];exact (HB.out.alloc _).next hp4
   clear hp4 hp hr;go_wp2_with fail
   go_roundw
   case rel=>exact ⟨k+1,by omega,by go_num,HS.out⟩
   case measure=>simp [intOf];omega
  ·have hkn':decide ((k:Int)<(n:Int))=false:=by simp;omega
   have HP:Hid (WP n0 g w x (l++bo n q++L.flatMap eI) wr):=by
    have e:L.take k=L:=List.take_of_length_le (by rw [HN.out];omega);have h:=HB.out.out;rw [e] at h;exact h
   go_wp2_with fail
   go_end0
   exact ⟨rfl,HP.out⟩
end Go.Proofs.YtoimkngkcliinaaGreatDoor.Wi
