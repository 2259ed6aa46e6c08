/- WiW, WiX, WiY, WiV, WiP, WiK, joined. -/
import Derived.Test.YtanaapfobpgibaaGreatDoorJWiB
open Go.Proofs.Tryz
set_option maxHeartbeats 1000000
namespace Go.Proofs.YtanaapfobpgibaaGreatDoor.Wi
open Go.RowKit Go.Maps
open Bt (Wr Fw Kept bo a_)
open Rt (gd)
set_option linter.unusedVariables false
set_option linter.unusedSimpArgs false
/- What a writing leaves: all but the writer's blocks; its new blocks are the old ones or new memory. -/
variable {B g k:Nat} {W W1 w:World} {a x:Value} {t:TypeId}
structure oB (g:Nat) (W:World) (x:Value) (W':World) (x':Value):Prop where
 kept:Kept (Fw g x) W W'
 own:∀k,Fw g x' k→Fw g x k∨W.heap.size≤k
theorem oB.refl (g:Nat) (W:World) (x:Value):oB g W x W x:=⟨Kept.refl _ _,fun k h=>.inl h⟩
theorem oB.trans {g:Nat} {W W1 W2:World} {x x1 x2:Value} (h:oB g W x W1 x1) (k:oB g W1 x1 W2 x2):oB g W x W2 x2:=
 ⟨h.kept.trans k.kept fun i hi hf=>(h.own i hf).resolve_right (by omega),fun i hi=>by
  rcases k.own i hi with h1 | h1
  ·exact h.own i h1
  ·exact .inr (Nat.le_trans h.kept.size h1)⟩
theorem oB.alloc {g:Nat} {W W1:World} {x x1:Value} (h:oB g W x W1 x1) (o:Obj):oB g W x (W1.alloc o) x1:=⟨h.kept.alloc o,h.own⟩
theorem oB.below {g N:Nat} {W W1:World} {x x1:Value} (h:oB g W x W1 x1) (hN:N≤W.heap.size) (hF:∀k,Fw g x k→N≤k):Below N W W1:=h.kept.below hN hF
theorem oB.row {x1:Value} {o:Obj} (h:oB g W x W1 x1) (hk:W.heap[k]? =some o) (hn:¬Fw g x k):W1.heap[k]? =some o:=(h.kept.block k (mB hk) hn).trans hk
theorem oB.nf {x1:Value} (h:oB g W x W1 x1) (hk:k<W.heap.size) (hn:¬Fw g x k):¬Fw g x1 k:=fun hf=>by
 rcases h.own k hf with h1 | h1
 ·exact hn h1
 ·omega
/- What a writing answers. -/
def WP (n0 g:Nat) (W:World) (x:Value) (l:List Bool) (W':World):Prop:=∃x',Wr n0 W' g l x'∧oB g W x W' x'
/- The writer, and two boxes. -/
structure WB (n0 g:Nat) (W0 W:World) (x0 x:Value) (l:List Bool) (C D:Nat) (ac ad:Obj):Prop where
 wr:Wr n0 W g l x
 sz:n0≤W.heap.size
 st:oB g W0 x0 W x
 hc:W.heap[C]? =some ac
 hd:W.heap[D]? =some ad
 nc:¬Fw g x C
 nd:¬Fw g x D
section
variable {n0 g:Nat} {W0 W W':World} {x0 x:Value} {l l':List Bool} {C D:Nat} {ac ad:Obj}
theorem WB.OJ (h:Wr n0 W g l x) (hn:n0≤W.heap.size) (a b:Obj):WB n0 g W ((W.alloc a).alloc b) x x l W.heap.size (W.heap.size+1) a b where
 wr:=(h.alloc a).alloc b
 sz:=by simp;omega
 st:=((oB.refl g W x).alloc a).alloc b
 hc:=aQ (heap_alloc_last W a) (aa _ _)
 hd:=by have:=heap_alloc_last (W.alloc a) b;rw [World.size_alloc] at this;exact this
 nc:=fun hf=>by have:=h.kB _ hf;omega
 nd:=fun hf=>by have:=h.kB _ hf;omega
theorem WB.Yk (h:Wr n0 W g l x) (hn:n0≤W.heap.size) (a:Obj):WB n0 g W (W.alloc a) x x l W.heap.size W.heap.size a a where
 wr:=h.alloc a
 sz:=by simp;omega
 st:=(oB.refl g W x).alloc a
 hc:=heap_alloc_last W a
 hd:=heap_alloc_last W a
 nc:=fun hf=>by have:=h.kB _ hf;omega
 nd:=fun hf=>by have:=h.kB _ hf;omega
theorem WB.next (h:WB n0 g W0 W x0 x l C D ac ad) (hp:WP n0 g W x l' W'):∃x',WB n0 g W0 W' x0 x' l' C D ac ad:=by
 obtain ⟨x',hw,hs⟩:=hp;exact ⟨x',hw,Nat.le_trans h.sz hs.kept.size,h.st.trans hs,hs.row h.hc h.nc,hs.row h.hd h.nd,hs.nf (mB h.hc) h.nc,hs.nf (mB h.hd) h.nd⟩
theorem WB.alloc (h:WB n0 g W0 W x0 x l C D ac ad) (o:Obj):WB n0 g W0 (W.alloc o) x0 x l C D ac ad:=
 ⟨h.wr.alloc o,by have:=h.sz;simp;omega,h.st.alloc o,aQ h.hc (aa _ _),aQ h.hd (aa _ _),h.nc,h.nd⟩
theorem WB.later (h:WB n0 g W0 W x0 x l C D ac ad) (hb:Below W.heap.size W W'):WB n0 g W0 W' x0 x l C D ac ad:=
 ⟨h.wr.kept (Kept.bb (F:=fun _=>False) hb) (fun _ _ h=>h),Nat.le_trans h.sz hb.size,h.st.trans ⟨Kept.bb hb,fun k hk=>.inl hk⟩,aQ h.hc hb,aQ h.hd hb,h.nc,h.nd⟩
theorem WB.out (h:WB n0 g W0 W x0 x l C D ac ad):WP n0 g W0 x0 l W:=⟨x,h.wr,h.st⟩
end
theorem X4 (n0 g v n:Nat) (l:List Bool) (x:Value) (w:World) (h1:1≤n) (h2:n≤64) (hv:v<2^n) (hB:n0≤w.heap.size) (hw:Wr n0 w g l x) (hl:l.length+n≤1099511627776):
  Calls prog 160 #[.pointer (some ⟨g,0,none⟩),.int .u64 (v:Int),.int .i64 (n:Int)] w fun e w'=>e=.returned (.int .i64 0)∧WP n0 g w x (l++bo v n) w':=by
 refine (Bt.H8 n0 g v n l x w h1 h2 hv hB hw hl).mono ?_;rintro e w' ⟨rfl,x',hw',hk,ho⟩;refine ⟨rfl,x',hw',hk,fun k hf=>?_⟩;rcases hf with rfl | hf
 ·exact .inl (.inl rfl)
 ·rcases ho with ho | ho
  ·exact .inl (.inr (by rw [←ho];exact hf))
  ·exact .inr (ho k hf)
theorem c1' (h:w.heap[B]? =some (.cells #[a] t (0,0))):w.cell? ⟨B,0,none⟩=some a:=cell_of_row w B 0 _ _ _ h
theorem c2' {b:Value} (h:w.heap[B]? =some (.cells #[a,b] t (0,0))):w.cell? ⟨B,0,none⟩=some a∧w.cell? ⟨B,1,none⟩=some b:=⟨cell_of_row w B 0 _ _ _ h,cell_of_row w B 1 _ _ _ h⟩
set_option maxRecDepth 100000 in
theorem dp (n0 g v n:Nat) (l:List Bool) (x:Value) (w:World) (h1:1≤n) (h2:n≤60) (hv:v<2^n) (hB:n0≤w.heap.size) (hw:Wr n0 w g l x) (hl:l.length+n≤1099511627776):
  Calls prog 114 #[.agg #[.pointer (some ⟨g,0,none⟩)],.int .i64 (v:Int),.int .i64 (n:Int)] w fun e w'=>e=.returned (.tuple #[])∧WP n0 g w x (l++bo v n) w':=by
 have hb:=WB.Yk hw hB (.cells #[.pointer (some ⟨g,0,none⟩)] 224);have adO:v<1152921504606846976:=Nat.lt_of_lt_of_le hv (by have:=Nat.pow_le_pow_right (n:=2) (by decide) h2;simpa using this);have hwv:IntKind.u64.wrap (v:Int)=(v:Int):=by rw [IntKind.wrap_u64];omega
 have hp:=X4 n0 g v n l x (w.alloc (.cells #[.pointer (some ⟨g,0,none⟩)] 224)) h1 (by omega) hv hb.sz hb.wr hl;have HB:Hid (WB n0 g w (w.alloc (.cells #[.pointer (some ⟨g,0,none⟩)] 224)) x x l w.heap.size w.heap.size (.cells #[.pointer (some ⟨g,0,none⟩)] 224) (.cells #[.pointer (some ⟨g,0,none⟩)] 224)):=hb;clear hb hv hw hl hB h1 h2;go_enter func114,ntmps114;go_wp2_with fail
 refine hp.mono ?_;rintro e w2 ⟨rfl,iJ⟩;have HP:Hid (WP n0 g w x (l++bo v n) w2):=(HB.out.next iJ).elim fun _ h=>h.out
 clear hp iJ;go_wp2_with fail
 go_end0
 exact ⟨rfl,HP.out⟩
set_option maxRecDepth 100000 in
theorem B4 (n0 g:Nat) (k:Int×Int) (l:List Bool) (x:Value) (w:World) (hk:gK k=true) (hB:n0≤w.heap.size) (hw:Wr n0 w g l x) (hl:l.length+24≤1099511627776):
  Calls prog 172 #[.agg #[.pointer (some ⟨g,0,none⟩)],.agg #[.int .i64 k.1,.int .i64 k.2]] w fun e w'=>e=.returned (.tuple #[])∧WP n0 g w x (l++eK k) w':=by
 have Mg:=Ql.1 hk;obtain ⟨b,s⟩:=k;dsimp only at *;have HE:Hid (eK (b,s)=bo (b.toNat * 256+s.toNat) 24):=(O8 _ _ (by omega)).symm;rw [HE.out];have e0:b * 256+s=((b.toNat * 256+s.toNat:Nat):Int):=by omega
 have BJ:=Rt.vX b s (by unfold Rt.Gd;omega);rw [e0] at BJ;have hv:b.toNat * 256+s.toNat<2^24:=by omega
 generalize b.toNat * 256+s.toNat=v at *;have hwv:IntKind.i64.wrap (v:Int)=(v:Int):=Bt.bu _ (by omega) (by omega);have hb:=WB.OJ hw hB (.cells #[.pointer (some ⟨g,0,none⟩)] 224) (.cells #[.int .i64 b,.int .i64 s] 31);clear e0 HE hk Mg hw hB;go_enter func172,ntmps172;go_upto_region 1 with (fail)
 generalize (w.alloc (.cells #[.pointer (some ⟨g,0,none⟩)] 224)).alloc (.cells #[.int .i64 b,.int .i64 s] 31)=w1 at *;obtain ⟨D,hD⟩:∃D,w.heap.size+1=D:=⟨_,rfl⟩;rw [hD] at hb ⊢;obtain ⟨C,hC⟩:∃C,w.heap.size=C:=⟨_,rfl⟩;rw [hC] at hb ⊢;clear hD hC;obtain ⟨d0,d1⟩:=c2' hb.hd;have HB:Hid (WB n0 g w w1 x x l C D (.cells #[.pointer (some ⟨g,0,none⟩)] 224) (.cells #[.int .i64 b,.int .i64 s] 31)):=hb;clear hb;have BJ:=BJ w1;go_wp2_with fail
 refine BJ.mono ?_;rintro e w2 ⟨rfl,hw2⟩;have hb2:=HB.out.later (W':=w2) (by rw [hw2];exact Below.plus (aa _ _) _);have c0:=c1' hb2.hc;have hp:=dp n0 g v 24 l x w2 (by omega) (by omega) hv hb2.sz hb2.wr hl;have bm:Hid (WB n0 g w w2 x x l C D (.cells #[.pointer (some ⟨g,0,none⟩)] 224) (.cells #[.int .i64 b,.int .i64 s] 31)):=hb2;clear hb2 hw2 BJ d0 d1 HB;go_wp2_with fail
 refine hp.mono ?_;rintro e w3 ⟨rfl,iJ⟩;have HP:Hid (WP n0 g w x (l++bo v 24) w3):=(bm.out.next iJ).elim fun _ h=>h.out
 clear hp iJ;go_wp2_with fail
 go_end0
 exact ⟨rfl,HP.out⟩
set_option maxRecDepth 100000 in
theorem MK (n0 g:Nat) (k:(Int×Int)×(Int×Int)) (l:List Bool) (x:Value) (w:World) (hk:gB k=true) (hB:n0≤w.heap.size) (hw:Wr n0 w g l x) (hl:l.length+48≤1099511627776):
  Calls prog 171 #[.agg #[.pointer (some ⟨g,0,none⟩)],.agg #[.int .i64 k.1.1,.int .i64 k.1.2,.int .i64 k.2.1,.int .i64 k.2.2]] w fun e w'=>e=.returned (.tuple #[])∧WP n0 g w x (l++eB k) w':=by
 have Mg:=wT.1 hk;obtain ⟨⟨a,b⟩,c,d⟩:=k;dsimp only at *;have HE:Hid (l++eB ((a,b),c,d)=l++eK (a,b)++eK (c,d)):=by unfold Hid eB;rw [List.append_assoc]
 have HK:Hid (gK (a,b)=true∧gK (c,d)=true):=Mg;rw [HE.out];have hb:=WB.OJ hw hB (.cells #[.pointer (some ⟨g,0,none⟩)] 224) (.cells #[.int .i64 a,.int .i64 b,.int .i64 c,.int .i64 d] 61);clear HE hk Mg hw hB;have hl2:(l++eK (a,b)).length+24≤1099511627776:=by rw [List.length_append];simp [eK];omega
 go_enter func171,ntmps171;go_upto_region 1 with (fail)
 generalize (w.alloc (.cells #[.pointer (some ⟨g,0,none⟩)] 224)).alloc (.cells #[.int .i64 a,.int .i64 b,.int .i64 c,.int .i64 d] 61)=w1 at *;obtain ⟨D,hD⟩:∃D,w.heap.size+1=D:=⟨_,rfl⟩;rw [hD] at hb ⊢;obtain ⟨C,hC⟩:∃C,w.heap.size=C:=⟨_,rfl⟩;rw [hC] at hb ⊢;clear hD hC;obtain ⟨d0,d1,d2,d3⟩:=c4 hb.hd;have c0:=c1' hb.hc;have hp:=B4 n0 g (a,b) l x w1 HK.out.1 hb.sz hb.wr (by omega);have HB:Hid (WB n0 g w w1 x x l C D (.cells #[.pointer (some ⟨g,0,none⟩)] 224) (.cells #[.int .i64 a,.int .i64 b,.int .i64 c,.int .i64 d] 61)):=hb;clear hb;dsimp only at hp;go_wp2_with fail
 refine hp.mono ?_;rintro e w2 ⟨rfl,iJ⟩;obtain ⟨x2,hb2⟩:=HB.out.next iJ;clear hp iJ HB c0 d0 d1 d2 d3;obtain ⟨d0,d1,d2,d3⟩:=c4 hb2.hd;have c0:=c1' hb2.hc;have hp:=B4 n0 g (c,d) (l++eK (a,b)) x2 w2 HK.out.2 hb2.sz hb2.wr hl2;have HB:Hid (WB n0 g w w2 x x2 (l++eK (a,b)) C D (.cells #[.pointer (some ⟨g,0,none⟩)] 224) (.cells #[.int .i64 a,.int .i64 b,.int .i64 c,.int .i64 d] 61)):=hb2;clear hb2;dsimp only at hp;go_wp2_with fail
 refine hp.mono ?_;rintro e w3 ⟨rfl,iJ⟩;have HP:Hid (WP n0 g w x (l++eK (a,b)++eK (c,d)) w3):=(HB.out.next iJ).elim fun _ h=>h.out
 clear hp iJ;go_wp2_with fail
 go_end0
 exact ⟨rfl,HP.out⟩
def oS (s:Int×Int):Prop:=gC 8 s.1∧gC 6 s.2
def oI (i:(Int×Int)×((Int×Int)×(Int×Int))):Prop:=(gC 5 i.1.1∧gC 7 i.1.2)∧(gK i.2.1=true∧gK i.2.2=true)
theorem qP {q:Nat} {v:Int} (h:gC q v):∃n:Nat,v=(n:Int)∧v.toNat=n∧n<2^q:=by
 obtain ⟨a,b⟩:=h;have e:((v.toNat:Nat):Int)=v:=Int.toNat_of_nonneg a;refine ⟨v.toNat,e.symm,rfl,?_⟩;have:((v.toNat:Nat):Int)<((2^q:Nat):Int):=by rw [e];simpa using b
 exact Int.ofNat_lt.1 this
set_option maxRecDepth 100000 in
theorem J1 (n0 g:Nat) (k:Int×Int) (l:List Bool) (x:Value) (w:World) (hk:oS k) (hB:n0≤w.heap.size) (hw:Wr n0 w g l x) (hl:l.length+14≤1099511627776):
  Calls prog 168 #[.agg #[.pointer (some ⟨g,0,none⟩)],.agg #[.int .i64 k.1,.int .i64 k.2]] w fun e w'=>e=.returned (.tuple #[])∧WP n0 g w x (l++eS k) w':=by
 obtain ⟨a,b⟩:=k;obtain ⟨h1,h2⟩:=hk;obtain ⟨u,rfl,eu,hu⟩:=qP h1;obtain ⟨v,rfl,ev,hv⟩:=qP h2;dsimp only at *;have HE:Hid (l++eS ((u:Int),(v:Int))=l++bo u 8++bo v 6):=by unfold Hid eS;dsimp only;rw [eu,ev,List.append_assoc]
 rw [HE.out];have hb:=WB.OJ hw hB (.cells #[.pointer (some ⟨g,0,none⟩)] 224) (.cells #[.int .i64 (u:Int),.int .i64 (v:Int)] 113);clear HE h1 h2 hw hB eu ev;have hl2:(l++bo u 8).length+6≤1099511627776:=by rw [List.length_append,a_];omega
 go_enter func168,ntmps168;go_upto_region 1 with (fail)
 generalize (w.alloc (.cells #[.pointer (some ⟨g,0,none⟩)] 224)).alloc (.cells #[.int .i64 (u:Int),.int .i64 (v:Int)] 113)=w1 at *;obtain ⟨D,hD⟩:∃D,w.heap.size+1=D:=⟨_,rfl⟩;rw [hD] at hb ⊢;obtain ⟨C,hC⟩:∃C,w.heap.size=C:=⟨_,rfl⟩;rw [hC] at hb ⊢;clear hD hC;obtain ⟨d0,d1⟩:=c2' hb.hd;have c0:=c1' hb.hc;have hp:=dp n0 g u 8 l x w1 (by omega) (by omega) hu hb.sz hb.wr (by omega);have HB:Hid (WB n0 g w w1 x x l C D (.cells #[.pointer (some ⟨g,0,none⟩)] 224) (.cells #[.int .i64 (u:Int),.int .i64 (v:Int)] 113)):=hb;clear hb;go_wp2_with fail
 refine hp.mono ?_;rintro e w2 ⟨rfl,iJ⟩;obtain ⟨x2,hb2⟩:=HB.out.next iJ;clear hp iJ HB c0 d0 d1;obtain ⟨d0,d1⟩:=c2' hb2.hd;have c0:=c1' hb2.hc;have hp:=dp n0 g v 6 (l++bo u 8) x2 w2 (by omega) (by omega) hv hb2.sz hb2.wr hl2;have HB:Hid (WB n0 g w w2 x x2 (l++bo u 8) C D (.cells #[.pointer (some ⟨g,0,none⟩)] 224) (.cells #[.int .i64 (u:Int),.int .i64 (v:Int)] 113)):=hb2;clear hb2;go_wp2_with fail
 refine hp.mono ?_;rintro e w3 ⟨rfl,iJ⟩;have HP:Hid (WP n0 g w x (l++bo u 8++bo v 6) w3):=(HB.out.next iJ).elim fun _ h=>h.out
 clear hp iJ;go_wp2_with fail
 go_end0
 exact ⟨rfl,HP.out⟩
theorem c6 {w:World} {B:Nat} {a b c d e f:Value} {t:TypeId} (h:w.heap[B]? =some (.cells #[a,b,c,d,e,f] t (0,0))):w.cell? ⟨B,0,none⟩=some a∧w.cell? ⟨B,1,none⟩=some b∧w.cell? ⟨B,2,none⟩=some c∧w.cell? ⟨B,3,none⟩=some d∧w.cell? ⟨B,4,none⟩=some e∧w.cell? ⟨B,5,none⟩=some f:=
 ⟨cell_of_row w B 0 _ _ _ h,cell_of_row w B 1 _ _ _ h,cell_of_row w B 2 _ _ _ h,cell_of_row w B 3 _ _ _ h,cell_of_row w B 4 _ _ _ h,cell_of_row w B 5 _ _ _ h⟩
set_option maxRecDepth 100000 in
theorem J2 (n0 g:Nat) (k:(Int×Int)×((Int×Int)×(Int×Int))) (l:List Bool) (x:Value) (w:World) (hk:oI k) (hB:n0≤w.heap.size) (hw:Wr n0 w g l x) (hl:l.length+60≤1099511627776):
  Calls prog 170 #[.agg #[.pointer (some ⟨g,0,none⟩)],.agg #[.int .i64 k.1.1,.int .i64 k.1.2,.int .i64 k.2.1.1,.int .i64 k.2.1.2,.int .i64 k.2.2.1,.int .i64 k.2.2.2]] w fun e w'=>e=.returned (.tuple #[])∧WP n0 g w x (l++eI k) w':=by
 obtain ⟨⟨a,b⟩,p⟩:=k;obtain ⟨⟨h1,h2⟩,h3,h4⟩:=hk;obtain ⟨u,rfl,eu,hu⟩:=qP h1;obtain ⟨v,rfl,ev,hv⟩:=qP h2;dsimp only at *;have HE:Hid (l++eI (((u:Int),(v:Int)),p)=l++bo u 5++bo v 7++eB p):=by unfold Hid eI;dsimp only;rw [eu,ev];simp
 have HK:Hid (gB p=true):=wT.2 ⟨h3,h4⟩;rw [HE.out];have hb:=WB.OJ hw hB (.cells #[.pointer (some ⟨g,0,none⟩)] 224) (.cells #[.int .i64 (u:Int),.int .i64 (v:Int),.int .i64 p.1.1,.int .i64 p.1.2,.int .i64 p.2.1,.int .i64 p.2.2] 103);have HO:∃o,o=Obj.cells #[.int .i64 (u:Int),.int .i64 (v:Int),.int .i64 p.1.1,.int .i64 p.1.2,.int .i64 p.2.1,.int .i64 p.2.2] 103:=⟨_,rfl⟩;clear HE h1 h2 h3 h4 hw hB eu ev;have hl2:(l++bo u 5).length+7≤1099511627776:=by rw [List.length_append,a_];omega
 have hl3:(l++bo u 5++bo v 7).length+48≤1099511627776:=by rw [List.length_append,List.length_append,a_,a_];omega
 go_enter func170,ntmps170;go_upto_region 1 with (fail)
 generalize (w.alloc (.cells #[.pointer (some ⟨g,0,none⟩)] 224)).alloc (.cells #[.int .i64 (u:Int),.int .i64 (v:Int),.int .i64 p.1.1,.int .i64 p.1.2,.int .i64 p.2.1,.int .i64 p.2.2] 103)=w1 at *;obtain ⟨D,hD⟩:∃D,w.heap.size+1=D:=⟨_,rfl⟩;rw [hD] at hb ⊢;obtain ⟨C,hC⟩:∃C,w.heap.size=C:=⟨_,rfl⟩;rw [hC] at hb ⊢;clear hD hC;obtain ⟨OD,hOD⟩:=HO;rw [←hOD] at hb;have HOD:Hid (OD=Obj.cells #[.int .i64 (u:Int),.int .i64 (v:Int),.int .i64 p.1.1,.int .i64 p.1.2,.int .i64 p.2.1,.int .i64 p.2.2] 103):=hOD;clear hOD;obtain ⟨d0,d1,d2,d3,d4,d5⟩:=c6 (HOD.out ▸ hb.hd);have c0:=c1' hb.hc;have hp:=dp n0 g u 5 l x w1 (by omega) (by omega) hu hb.sz hb.wr (by omega);have HB:Hid (WB n0 g w w1 x x l C D (.cells #[.pointer (some ⟨g,0,none⟩)] 224) OD):=hb;clear hb;go_wp2_with fail
 refine hp.mono ?_;rintro e w2 ⟨rfl,iJ⟩;obtain ⟨x2,hb2⟩:=HB.out.next iJ;clear hp iJ HB c0 d0 d1 d2 d3 d4 d5;obtain ⟨d0,d1,d2,d3,d4,d5⟩:=c6 (HOD.out ▸ hb2.hd);have c0:=c1' hb2.hc;have hp:=dp n0 g v 7 (l++bo u 5) x2 w2 (by omega) (by omega) hv hb2.sz hb2.wr hl2;have HB:Hid (WB n0 g w w2 x x2 (l++bo u 5) C D (.cells #[.pointer (some ⟨g,0,none⟩)] 224) OD):=hb2;clear hb2;go_wp2_with fail
 refine hp.mono ?_;rintro e w3 ⟨rfl,hp3⟩;obtain ⟨x3,hb3⟩:=HB.out.next hp3;clear hp hp3 HB c0 d0 d1 d2 d3 d4 d5;obtain ⟨d0,d1,d2,d3,d4,d5⟩:=c6 (HOD.out ▸ hb3.hd);have c0:=c1' hb3.hc;have hp:=MK n0 g p (l++bo u 5++bo v 7) x3 w3 HK.out hb3.sz hb3.wr hl3;have HB:Hid (WB n0 g w w3 x x3 (l++bo u 5++bo v 7) C D (.cells #[.pointer (some ⟨g,0,none⟩)] 224) OD):=hb3;clear hb3;go_wp2_with fail
 refine hp.mono ?_;rintro e w4 ⟨rfl,Py⟩;have HP:Hid (WP n0 g w x (l++bo u 5++bo v 7++eB p) w4):=(HB.out.next Py).elim fun _ h=>h.out
 clear hp Py;go_wp2_with fail
 go_end0
 exact ⟨rfl,HP.out⟩
theorem oo {α:Type} (f:α→List Bool) (k:Nat) (h:∀x,(f x).length=k):∀l:List α,(l.flatMap f).length=k * l.length
 | []=>by simp
 | x::l=>by rw [List.flatMap_cons,List.length_append,h,oo f k h l,List.length_cons,Nat.mul_succ,Nat.add_comm]
theorem zo {α:Type} (f:α→List Bool) {l:List α} {k:Nat} (h:k<l.length):(l.take (k+1)).flatMap f=(l.take k).flatMap f++f l[k]:=by
 rw [List.take_succ_eq_append_getElem h,LB]
set_option maxRecDepth 100000 in
theorem NT (n0 g q:Nat) (a:Option Addr) (c:Nat) (L:List (Int×Int)) (l:List Bool) (x:Value) (w:World) (h1:1≤q) (h2:q≤60) (hn:L.length<2^q) (hL:L.length≤2048) (hf:∀s∈L,oS s) (fV:∀W' x',oB g w x W' x'→iG iI 2 W' a L) (hB:n0≤w.heap.size) (hw:Wr n0 w g l x) (hl:l.length+1048576≤1099511627776):
  Calls prog 167 #[.agg #[.pointer (some ⟨g,0,none⟩)],.slice a L.length c,.int .i64 (q:Int),.func (.func 168) #[.agg #[.pointer (some ⟨g,0,none⟩)]] #[]] w fun e w'=>e=.returned (.tuple #[])∧WP n0 g w x (l++(bo L.length q++L.flatMap eS)) w':=by
 obtain ⟨n,hne⟩:∃n,L.length=n:=⟨_,rfl⟩;have HN:Hid (L.length=n):=hne;have HE:Hid (l++(bo L.length q++L.flatMap eS)=l++bo n q++L.flatMap eS):=by unfold Hid;rw [hne,List.append_assoc]
 rw [HE.out];rw [hne] at hn hL;rw [hne];clear hne HE;have HF:Hid (∀s∈L,oS s):=hf;have Ek:Hid (∀W' x',oB g w x W' x'→iG iI 2 W' a L):=fV;have hb:=WB.Yk hw hB (.cells #[.pointer (some ⟨g,0,none⟩)] 224);clear hf fV hw hB;go_enter func167,ntmps167;go_upto_region 1 with (fail)
 generalize w.alloc (.cells #[.pointer (some ⟨g,0,none⟩)] 224)=w1 at *;obtain ⟨C,hC⟩:∃C,w.heap.size=C:=⟨_,rfl⟩;rw [hC] at hb ⊢;clear hC;obtain ⟨OC,Mi⟩:∃o,o=Obj.cells #[.pointer (some ⟨g,0,none⟩)] 224:=⟨_,rfl⟩;rw [←Mi] at hb;have HOC:Hid (OC=Obj.cells #[.pointer (some ⟨g,0,none⟩)] 224):=Mi;clear Mi;have c0:=c1' (HOC.out ▸ hb.hc);have hp:=dp n0 g n q l x w1 h1 h2 hn hb.sz hb.wr (by omega);have HB:Hid (WB n0 g w w1 x x l C C OC OC):=hb;clear hb;go_wp2_with fail
 refine hp.mono ?_;rintro e w2 ⟨rfl,iJ⟩
 have HS:Hid (∃x',WB n0 g w w2 x x' (l++bo n q++(L.take 0).flatMap eS) C C OC OC):=by
  obtain ⟨x2,hb2⟩:=HB.out.next iJ;exact ⟨x2,by simpa using hb2⟩
 clear hp iJ HB c0;go_wp2_with fail
 go_loopw [17] (fun i wx=>∃k:Nat,k≤n∧i=.int .i64 (k:Int)∧∃x',WB n0 g w wx x x' (l++bo n q++(L.take k).flatMap eS) C C OC OC) (fun i _=>n - (intOf i).toNat)
 case atStart=>exact ⟨0,by omega,rfl,HS.out⟩
 case round=>
  obtain ⟨k,hk,rfl,x2,hb2⟩:=hrel;have HB:Hid (WB n0 g w wr x x2 (l++bo n q++(L.take k).flatMap eS) C C OC OC):=hb2;clear hb2 HS;by_cases cE:k<n
  ·have iw:k<L.length:=by rw [HN.out];exact cE
   obtain ⟨b,o,rfl,hr⟩:=Ek.out wr x2 HB.out.st k iw;have HX:Hid (l++bo n q++(L.take (k+1)).flatMap eS=l++bo n q++(L.take k).flatMap eS++eS L[k]):=by unfold Hid;rw [zo _ iw];simp
   have lS:=HF.out L[k] (List.getElem_mem iw)
   have hlen:(l++bo n q++(L.take k).flatMap eS).length+14≤1099511627776:=by
    have e:=oo eS 14 (fun _=>by simp [eS,eS,eI,eB,eK]) (L.take k);rw [List.length_append,List.length_append,a_,e,List.length_take,HN.out,Nat.min_eq_left hk];omega
   generalize L[k]=p at *;generalize l++bo n q++(L.take k).flatMap eS=l2 at *;unfold iI at hr;have i1:(0:Int)≤(k:Int):=by omega
   have i2:(k:Int)<(n:Int):=by omega
   have hp:=fun o=>J1 n0 g p l2 x2 (wr.alloc o) lS (HB.out.alloc o).sz (HB.out.alloc o).wr hlen
   clear lS hlen;go_wp2_with (refine kg hr underlying113 rfl ju _ rfl rfl rfl ?_)
   refine (hp _).mono ?_;rintro e w4 ⟨rfl,Py⟩;have HS:Hid (∃x',WB n0 g w w4 x x' (l++bo n q++(L.take (k+1)).flatMap eS) C C OC OC):=by unfold Hid;rw [HX.out];exact (HB.out.alloc _).next Py
   clear Py hp hr;go_wp2_with fail
   go_roundw
   case rel=>exact ⟨k+1,by omega,by go_num,HS.out⟩
   case measure=>simp [intOf];omega
  ·have iX:decide ((k:Int)<(n:Int))=false:=by simp;omega
   have HP:Hid (WP n0 g w x (l++bo n q++L.flatMap eS) wr):=by
    have e:L.take k=L:=List.take_of_length_le (by rw [HN.out];omega);have h:=HB.out.out;rw [e] at h;exact h
   go_wp2_with fail
   go_end0
   exact ⟨rfl,HP.out⟩
set_option maxRecDepth 100000 in
theorem NU (n0 g q:Nat) (a:Option Addr) (c:Nat) (L:List ((Int×Int)×((Int×Int)×(Int×Int)))) (l:List Bool) (x:Value) (w:World) (h1:1≤q) (h2:q≤60) (hn:L.length<2^q) (hL:L.length≤2048) (hf:∀s∈L,oI s) (fV:∀W' x',oB g w x W' x'→iG mW 6 W' a L) (hB:n0≤w.heap.size) (hw:Wr n0 w g l x) (hl:l.length+1048576≤1099511627776):
  Calls prog 169 #[.agg #[.pointer (some ⟨g,0,none⟩)],.slice a L.length c,.int .i64 (q:Int),.func (.func 170) #[.agg #[.pointer (some ⟨g,0,none⟩)]] #[]] w fun e w'=>e=.returned (.tuple #[])∧WP n0 g w x (l++(bo L.length q++L.flatMap eI)) w':=by
 obtain ⟨n,hne⟩:∃n,L.length=n:=⟨_,rfl⟩;have HN:Hid (L.length=n):=hne;have HE:Hid (l++(bo L.length q++L.flatMap eI)=l++bo n q++L.flatMap eI):=by unfold Hid;rw [hne,List.append_assoc]
 rw [HE.out];rw [hne] at hn hL;rw [hne];clear hne HE;have HF:Hid (∀s∈L,oI s):=hf;have Ek:Hid (∀W' x',oB g w x W' x'→iG mW 6 W' a L):=fV;have hb:=WB.Yk hw hB (.cells #[.pointer (some ⟨g,0,none⟩)] 224);clear hf fV hw hB;go_enter func169,ntmps169;go_upto_region 1 with (fail)
 generalize w.alloc (.cells #[.pointer (some ⟨g,0,none⟩)] 224)=w1 at *;obtain ⟨C,hC⟩:∃C,w.heap.size=C:=⟨_,rfl⟩;rw [hC] at hb ⊢;clear hC;obtain ⟨OC,Mi⟩:∃o,o=Obj.cells #[.pointer (some ⟨g,0,none⟩)] 224:=⟨_,rfl⟩;rw [←Mi] at hb;have HOC:Hid (OC=Obj.cells #[.pointer (some ⟨g,0,none⟩)] 224):=Mi;clear Mi;have c0:=c1' (HOC.out ▸ hb.hc);have hp:=dp n0 g n q l x w1 h1 h2 hn hb.sz hb.wr (by omega);have HB:Hid (WB n0 g w w1 x x l C C OC OC):=hb;clear hb;go_wp2_with fail
 refine hp.mono ?_;rintro e w2 ⟨rfl,iJ⟩
 have HS:Hid (∃x',WB n0 g w w2 x x' (l++bo n q++(L.take 0).flatMap eI) C C OC OC):=by
  obtain ⟨x2,hb2⟩:=HB.out.next iJ;exact ⟨x2,by simpa using hb2⟩
 clear hp iJ HB c0;go_wp2_with fail
 go_loopw [17] (fun i wx=>∃k:Nat,k≤n∧i=.int .i64 (k:Int)∧∃x',WB n0 g w wx x x' (l++bo n q++(L.take k).flatMap eI) C C OC OC) (fun i _=>n - (intOf i).toNat)
 case atStart=>exact ⟨0,by omega,rfl,HS.out⟩
 case round=>
  obtain ⟨k,hk,rfl,x2,hb2⟩:=hrel;have HB:Hid (WB n0 g w wr x x2 (l++bo n q++(L.take k).flatMap eI) C C OC OC):=hb2;clear hb2 HS;by_cases cE:k<n
  ·have iw:k<L.length:=by rw [HN.out];exact cE
   obtain ⟨b,o,rfl,hr⟩:=Ek.out wr x2 HB.out.st k iw;have HX:Hid (l++bo n q++(L.take (k+1)).flatMap eI=l++bo n q++(L.take k).flatMap eI++eI L[k]):=by unfold Hid;rw [zo _ iw];simp
   have lS:=HF.out L[k] (List.getElem_mem iw)
   have hlen:(l++bo n q++(L.take k).flatMap eI).length+60≤1099511627776:=by
    have e:=oo eI 60 (fun _=>by simp [eI,eS,eI,eB,eK]) (L.take k);rw [List.length_append,List.length_append,a_,e,List.length_take,HN.out,Nat.min_eq_left hk];omega
   generalize L[k]=p at *;generalize l++bo n q++(L.take k).flatMap eI=l2 at *;unfold mW at hr;have i1:(0:Int)≤(k:Int):=by omega
   have i2:(k:Int)<(n:Int):=by omega
   have hp:=fun o=>J2 n0 g p l2 x2 (wr.alloc o) lS (HB.out.alloc o).sz (HB.out.alloc o).wr hlen
   clear lS hlen;go_wp2_with (refine kg hr underlying103 rfl gh _ rfl rfl rfl ?_)
   refine (hp _).mono ?_;rintro e w4 ⟨rfl,Py⟩;have HS:Hid (∃x',WB n0 g w w4 x x' (l++bo n q++(L.take (k+1)).flatMap eI) C C OC OC):=by unfold Hid;rw [HX.out];exact (HB.out.alloc _).next Py
   clear Py hp hr;go_wp2_with fail
   go_roundw
   case rel=>exact ⟨k+1,by omega,by go_num,HS.out⟩
   case measure=>simp [intOf];omega
  ·have iX:decide ((k:Int)<(n:Int))=false:=by simp;omega
   have HP:Hid (WP n0 g w x (l++bo n q++L.flatMap eI) wr):=by
    have e:L.take k=L:=List.take_of_length_le (by rw [HN.out];omega);have h:=HB.out.out;rw [e] at h;exact h
   go_wp2_with fail
   go_end0
   exact ⟨rfl,HP.out⟩
open Bt (Wr Fw Kept bo a_ tb bT bA a8)
theorem QP (l:List (Int×Int)):(eL l).length=7+14 * l.length:=by
 unfold eL;rw [List.length_append,a_,oo eS 14 (fun _=>by simp [eS])]
set_option maxRecDepth 100000 in
theorem EO (n0 g:Nat) (r:Int×(List (Int×Int)×(List (Int×Int)×List ((Int×Int)×((Int×Int)×(Int×Int)))))) (aL aJ aI:Option Addr) (cL cJ cI:Nat) (l:List Bool) (x:Value) (w:World) (hk:xZ r) (hB:n0≤w.heap.size) (hw:Wr n0 w g l x) (hl:l.length≤1024)
  (rL:∀W' x',oB g w x W' x'→iG iI 2 W' aL r.2.1) (rJ:∀W' x',oB g w x W' x'→iG iI 2 W' aJ r.2.2.1) (rI:∀W' x',oB g w x W' x'→iG mW 6 W' aI r.2.2.2):
  Calls prog 115 #[.agg #[.pointer (some ⟨g,0,none⟩)],.agg (vy r.1 (.slice aL r.2.1.length cL) (.slice aJ r.2.2.1.length cJ) (.slice aI r.2.2.2.length cI)).toArray] w fun e w'=>e=.returned (.tuple #[])∧WP n0 g w x (l++eR r) w':=by
 obtain ⟨e,L,J,I⟩:=r;obtain ⟨h1,⟨h2,h3⟩,⟨h4,h5⟩,h6,h7⟩:=hk;obtain ⟨u,rfl,eu,hu⟩:=qP h1;unfold vy;dsimp only at *;have HE:Hid (l++eR ((u:Int),L,J,I)=l++bo u 8++(bo L.length 7++L.flatMap eS)++(bo J.length 7++J.flatMap eS)++(bo I.length 11++I.flatMap eI)):=by unfold Hid eR eL;dsimp only;rw [eu];simp
 rw [HE.out];have l1:(l++bo u 8).length≤4096:=by rw [List.length_append,a_];omega
 have l2:(l++bo u 8++(bo L.length 7++L.flatMap eS)).length≤65536:=by
  have:=QP L;unfold eL at this;rw [List.length_append,this];omega
 have l3:(l++bo u 8++(bo L.length 7++L.flatMap eS)++(bo J.length 7++J.flatMap eS)).length≤131072:=by
  have:=QP J;unfold eL at this;rw [List.length_append,this];omega
 have HL1:Hid ((l++bo u 8).length≤4096):=l1;have HL2:Hid ((l++bo u 8++(bo L.length 7++L.flatMap eS)).length≤65536):=l2;have HL3:Hid ((l++bo u 8++(bo L.length 7++L.flatMap eS)++(bo J.length 7++J.flatMap eS)).length≤131072):=l3;have uZ:Hid (∀W' x',oB g w x W' x'→iG iI 2 W' aL L):=rL;have HRJ:Hid (∀W' x',oB g w x W' x'→iG iI 2 W' aJ J):=rJ;have HRI:Hid (∀W' x',oB g w x W' x'→iG mW 6 W' aI I):=rI;have h3':∀s∈L,oS s:=h3;have h5':∀s∈J,oS s:=h5;have h7':∀s∈I,oI s:=h7;have HF:Hid ((∀s∈L,oS s)∧(∀s∈J,oS s)∧(∀s∈I,oI s)):=⟨h3',h5',h7'⟩;have yr:Hid (L.length<128∧J.length<128∧I.length<2048):=⟨h2,h4,h6⟩;have hb:=WB.OJ hw hB (.cells #[.pointer (some ⟨g,0,none⟩)] 224) (.cells #[.int .i64 (u:Int),.slice aL L.length cL,.slice aJ J.length cJ,.slice aI I.length cI] 54);clear HE h1 h2 h3 h4 h5 h6 h7 h3' h5' h7' hw hB eu l1 l2 l3 rL rJ rI;have hmf:∀(fn:Fn) (first cap:Array Value) (w:World),(Instr.makeFunc fn first cap).run prog w=.ok (.func fn first cap) w:=fun _ _ _ _=>rfl
 obtain ⟨nL,wK⟩:∃n,L.length=n:=⟨_,rfl⟩;obtain ⟨nJ,wL⟩:∃n,J.length=n:=⟨_,rfl⟩;obtain ⟨nI,IJ⟩:∃n,I.length=n:=⟨_,rfl⟩;have Et:Hid (L.length=nL∧J.length=nJ∧I.length=nI):=⟨wK,wL,IJ⟩;simp only [wK,wL,IJ] at hb;rw [wK,wL,IJ];rw [wK] at HL2 HL3;rw [wL] at HL3;clear wK wL IJ
 have hs:∀(n0:Nat) (q:Nat) (a:Option Addr) (c:Nat) (L:List (Int×Int)) (n:Nat) (l:List Bool) (x:Value) (w:World),L.length=n→1≤q→q≤60→n<2^q→n≤2048→(∀s∈L,oS s)→(∀W' x',oB g w x W' x'→iG iI 2 W' a L)→n0≤w.heap.size→Wr n0 w g l x→l.length+1048576≤1099511627776→Calls prog 167 #[.agg #[.pointer (some ⟨g,0,none⟩)],.slice a n c,.int .i64 (q:Int),.func (.func 168) #[.agg #[.pointer (some ⟨g,0,none⟩)]] #[]] w fun e w'=>e=.returned (.tuple #[])∧WP n0 g w x (l++(bo n q++L.flatMap eS)) w':=by
  intro n0 q a c L n l x w hn h1 h2 h3 h4 h5 h6 h7 h8 h9;subst hn;exact NT n0 g q a c L l x w h1 h2 h3 h4 h5 h6 h7 h8 h9
 have hi:∀(n0:Nat) (q:Nat) (a:Option Addr) (c:Nat) (L:List ((Int×Int)×((Int×Int)×(Int×Int)))) (n:Nat) (l:List Bool) (x:Value) (w:World),L.length=n→1≤q→q≤60→n<2^q→n≤2048→(∀s∈L,oI s)→(∀W' x',oB g w x W' x'→iG mW 6 W' a L)→n0≤w.heap.size→Wr n0 w g l x→l.length+1048576≤1099511627776→Calls prog 169 #[.agg #[.pointer (some ⟨g,0,none⟩)],.slice a n c,.int .i64 (q:Int),.func (.func 170) #[.agg #[.pointer (some ⟨g,0,none⟩)]] #[]] w fun e w'=>e=.returned (.tuple #[])∧WP n0 g w x (l++(bo n q++L.flatMap eI)) w':=by
  intro n0 q a c L n l x w hn h1 h2 h3 h4 h5 h6 h7 h8 h9;subst hn;exact NU n0 g q a c L l x w h1 h2 h3 h4 h5 h6 h7 h8 h9
 have HS:Hid _:=hs;have HI:Hid _:=hi;clear hs hi;go_enter func115,ntmps115;go_upto_region 1 with (fail)
 generalize (w.alloc (.cells #[.pointer (some ⟨g,0,none⟩)] 224)).alloc (.cells #[.int .i64 (u:Int),.slice aL nL cL,.slice aJ nJ cJ,.slice aI nI cI] 54)=w1 at *;obtain ⟨D,hD⟩:∃D,w.heap.size+1=D:=⟨_,rfl⟩;rw [hD] at hb ⊢;obtain ⟨C,hC⟩:∃C,w.heap.size=C:=⟨_,rfl⟩;rw [hC] at hb ⊢;clear hD hC;obtain ⟨d0,d1,d2,d3⟩:=c4 hb.hd;have c0:=c1' hb.hc;have hp:=dp n0 g u 8 l x w1 (by omega) (by omega) hu hb.sz hb.wr (by omega);have HB:Hid (WB n0 g w w1 x x l C D (.cells #[.pointer (some ⟨g,0,none⟩)] 224) (.cells #[.int .i64 (u:Int),.slice aL nL cL,.slice aJ nJ cJ,.slice aI nI cI] 54)):=hb;clear hb;go_wp2_with fail
 refine hp.mono ?_;rintro e w2 ⟨rfl,iJ⟩;obtain ⟨x2,hb2⟩:=HB.out.next iJ;clear hp iJ HB c0 d0 d1 d2 d3;obtain ⟨d0,d1,d2,d3⟩:=c4 hb2.hd;have c0:=c1' hb2.hc;have HB:Hid (WB n0 g w w2 x x2 (l++bo u 8) C D (.cells #[.pointer (some ⟨g,0,none⟩)] 224) (.cells #[.int .i64 (u:Int),.slice aL nL cL,.slice aJ nJ cJ,.slice aI nI cI] 54)):=hb2;have hp:=HS.out n0 7 aL cL L nL (l++bo u 8) x2 w2 Et.out.1 (by omega) (by omega) (by have:=yr.out;have:=Et.out;omega) (by have:=yr.out;have:=Et.out;omega) HF.out.1 (fun W' x' h=>uZ.out W' x' (HB.out.st.trans h)) hb2.sz hb2.wr (by have:=HL1.out;omega);clear hb2;go_wp2_with fail
 refine hp.mono ?_;rintro e w3 ⟨rfl,hp3⟩;obtain ⟨x3,hb3⟩:=HB.out.next hp3;clear hp hp3 HB c0 d0 d1 d2 d3;obtain ⟨d0,d1,d2,d3⟩:=c4 hb3.hd;have c0:=c1' hb3.hc;have HB:Hid (WB n0 g w w3 x x3 (l++bo u 8++(bo nL 7++L.flatMap eS)) C D (.cells #[.pointer (some ⟨g,0,none⟩)] 224) (.cells #[.int .i64 (u:Int),.slice aL nL cL,.slice aJ nJ cJ,.slice aI nI cI] 54)):=hb3;have hp:=HS.out n0 7 aJ cJ J nJ (l++bo u 8++(bo nL 7++L.flatMap eS)) x3 w3 Et.out.2.1 (by omega) (by omega) (by have:=yr.out;have:=Et.out;omega) (by have:=yr.out;have:=Et.out;omega) HF.out.2.1 (fun W' x' h=>HRJ.out W' x' (HB.out.st.trans h)) hb3.sz hb3.wr (by have:=HL2.out;omega);clear hb3;go_wp2_with fail
 refine hp.mono ?_;rintro e w4 ⟨rfl,Py⟩;obtain ⟨x4,hb4⟩:=HB.out.next Py;clear hp Py HB c0 d0 d1 d2 d3;obtain ⟨d0,d1,d2,d3⟩:=c4 hb4.hd;have c0:=c1' hb4.hc;have HB:Hid (WB n0 g w w4 x x4 (l++bo u 8++(bo nL 7++L.flatMap eS)++(bo nJ 7++J.flatMap eS)) C D (.cells #[.pointer (some ⟨g,0,none⟩)] 224) (.cells #[.int .i64 (u:Int),.slice aL nL cL,.slice aJ nJ cJ,.slice aI nI cI] 54)):=hb4;have hp:=HI.out n0 11 aI cI I nI (l++bo u 8++(bo nL 7++L.flatMap eS)++(bo nJ 7++J.flatMap eS)) x4 w4 Et.out.2.2 (by omega) (by omega) (by have:=yr.out;have:=Et.out;omega) (by have:=yr.out;have:=Et.out;omega) HF.out.2.2 (fun W' x' h=>HRI.out W' x' (HB.out.st.trans h)) hb4.sz hb4.wr (by have:=HL3.out;omega);clear hb4;go_wp2_with fail
 refine hp.mono ?_;rintro e w5 ⟨rfl,hp5⟩;have HP:Hid (WP n0 g w x (l++bo u 8++(bo nL 7++L.flatMap eS)++(bo nJ 7++J.flatMap eS)++(bo nI 11++I.flatMap eI)) w5):=(HB.out.next hp5).elim fun _ h=>h.out
 clear hp hp5;go_wp2_with fail
 go_end0
 exact ⟨rfl,HP.out⟩
open Bt (Wr Fw Kept bo a_ tb bT bA a8 tx pk)
/- The kinds of right messages. -/
theorem UJ {m:lZ} (h:gM m=true):(m.kd=1∧xZ m.rk∧eM m=bo 0 2++eR m.rk)∨(m.kd=2∧okQ m.rq∧eM m=bo 1 2++eQ m.rq)∨(m.kd=3∧okP m.rp∧eM m=bo 2 2++eP m.rp)∨(m.kd=4∧okT m.sd∧eM m=bo 3 2++eD m.sd):=by
 rcases Qk h with ⟨o,e⟩ | ⟨o,e⟩ | ⟨o,e⟩ | ⟨o,e⟩
 ·exact .inl ⟨by rw [e];rfl,o,by rw [e];rfl⟩
 ·exact .inr (.inl ⟨by rw [e];rfl,o,by rw [e];rfl⟩)
 ·exact .inr (.inr (.inl ⟨by rw [e];rfl,o,by rw [e];rfl⟩))
 ·exact .inr (.inr (.inr ⟨by rw [e];rfl,o,by rw [e];rfl⟩))
theorem iG.of {α:Type} {f:α→List Value} {n g N:Nat} {w w3 W':World} {a:Option Addr} {l:List α} {x x':Value} (h:iG f n w a l) (hb:Below w.heap.size w w3) (hst:oB g w3 x W' x') (hF:∀k,Fw g x k→w.heap.size≤k):iG f n W' a l:=
 h.later (hb.trans (hst.below hb.size hF))
open Bt (Rr Kept tb bA bT a8 tx rG dn)
theorem ar {W W':World} {b:Nat} {e:TypeId} {sz:Nat} {v:Value} {n:Nat} {xs:List Value} (h:W.ownsRow b e sz v n xs) (hb:Below W.heap.size W W'):W'.ownsRow b e sz v n xs:=aY h fun g _ hg=>hb.block g hg
open Bt (tx pk tb bA)
variable {w:World} {m:lZ}
def MV (w:World) (m:lZ) (ct:List Value):Prop:=∃aL aJ aI cL cJ cI,ct=CU m aL aJ aI cL cJ cI∧MR w m aL aJ aI
section
variable {w w':World} {m m':lZ} {ct dt:List Value}
theorem MV.later (h:MV w m ct) (hb:Below w.heap.size w w'):MV w' m ct:=by
 obtain ⟨aL,aJ,aI,cL,cJ,cI,e,hr⟩:=h;exact ⟨aL,aJ,aI,cL,cJ,cI,e,hr.later hb⟩
theorem MV.len (h:MV w m ct):ct.length=26:=by
 obtain ⟨aL,aJ,aI,cL,cJ,cI,rfl,hr⟩:=h;rfl
end
/- A message in a block, opaque. -/
def MB (w:World) (B:Nat) (ct:List Value):Prop:=w.heap[B]? =some (.cells ct.toArray 68 (0,0))
theorem MB.all {B:Nat} {ct:List Value} (h:MB w B ct):w.rangeAt B 0 ct:=yJ h 0 ct (by simp)
theorem MB.new (w:World) (ct:List Value):MB (w.alloc (.cells ct.toArray 68)) w.heap.size ct:=heap_alloc_last w _
theorem ach {ct:List Value} (h:MV w m ct):(prog.info? 68).map (·.size)=some ct.length:=by rw [h.len];exact S9
theorem Yl (h:gM m=true):m.rk.2.1.length<4611686018427387904∧m.rk.2.2.1.length<4611686018427387904∧m.rk.2.2.2.length<4611686018427387904∧m.sd.2.2.size<4611686018427387904:=by
 rcases wS h with ⟨a,e⟩ | ⟨a,e⟩ | ⟨a,e⟩ | ⟨a,e⟩
 ·simp only [gR,Bool.and_eq_true,decide_eq_true_eq] at a;rw [e];refine ⟨by show m.rk.2.1.length<_;omega,by show m.rk.2.2.1.length<_;omega,by show m.rk.2.2.2.length<_;omega,(show 0<4611686018427387904 by decide)⟩
 ·rw [e];exact ⟨(show 0<4611686018427387904 by decide),(show 0<4611686018427387904 by decide),(show 0<4611686018427387904 by decide),(show 0<4611686018427387904 by decide)⟩
 ·rw [e];exact ⟨(show 0<4611686018427387904 by decide),(show 0<4611686018427387904 by decide),(show 0<4611686018427387904 by decide),(show 0<4611686018427387904 by decide)⟩
 ·simp only [gD,Bool.and_eq_true,decide_eq_true_eq] at a;rw [e];exact ⟨(show 0<4611686018427387904 by decide),(show 0<4611686018427387904 by decide),(show 0<4611686018427387904 by decide),by show m.sd.2.2.size<_;omega⟩
/- Examples 1 and 2. -/
def x1:lZ:=⟨2,zR,(1,3),zP,zD⟩
def x2:lZ:=⟨4,zR,zQ,zP,(2,(1,2),tx [65])⟩
end Go.Proofs.YtanaapfobpgibaaGreatDoor.Wi
