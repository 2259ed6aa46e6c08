/- RsMath, RsA, RsB, RsEq, joined. -/
import Derived.Test.YtanaapfobpgibaaGreatDoorJStPop
import Derived.Great.Walk
open Go.Proofs.Tryz
set_option maxHeartbeats 1000000
namespace Go.Proofs.YtanaapfobpgibaaGreatDoor.Rs
set_option linter.unusedVariables false
set_option maxRecDepth 4000
set_option linter.unusedSimpArgs false
/- An entry. -/
variable {i k n:Nat} {p:Nat→Bool}
structure En where
 who:Int
 aB:Int
 dx:Int
theorem En.ext' {a b:En} (h1:a.who=b.who) (h2:a.aB=b.aB) (h3:a.dx=b.dx):a=b:=by cases a;cases b;simp_all
def zE:En:=⟨0,0,0⟩
def En.fld (e:En) (k:Nat):Int:=if k=0 then e.who else if k=1 then e.aB else e.dx
/- The 64 entries as cells. -/
def aU (f:Nat→En):Array Value:=Array.ofFn (n:=192) fun i=>.int .i64 ((f (i.1/3)).fld (i.1%3))
@[simp] theorem fg (f:Nat→En):(aU f).size=192:=by simp [aU]
theorem Ff (f:Nat→En) (j:Nat) (h:j<192):(aU f)[j]? =some (.int .i64 ((f (j/3)).fld (j%3))):=by
 rw [Array.getElem?_eq_getElem (by simpa using h)];simp [aU]
theorem Ae (f:Nat→En) (i:Nat) (h:i<64):(aU f)[i * 3]? =some (.int .i64 (f i).who)∧(aU f)[i * 3+1]? =some (.int .i64 (f i).aB)∧(aU f)[i * 3+2]? =some (.int .i64 (f i).dx):=by
 refine ⟨?_,?_,?_⟩
 ·rw [Ff f _ (by omega),show i * 3/3=i by omega,show i * 3%3=0 by omega];rfl
 ·rw [Ff f _ (by omega),show (i * 3+1)/3=i by omega,show (i * 3+1)%3=1 by omega];rfl
 ·rw [Ff f _ (by omega),show (i * 3+2)/3=i by omega,show (i * 3+2)%3=2 by omega];rfl
theorem H6 (f:Nat→En):(aU f).all (·.oneCell')=true:=by
 rw [Array.all_eq_true];intro i h;simp [aU,Value.oneCell']
def upd (f:Nat→En) (k:Nat) (e:En):Nat→En:=fun i=>if i=k then e else f i
theorem upd_same (f:Nat→En) (k:Nat) (e:En):upd f k e k=e:=if_pos rfl
theorem upd_ne (f:Nat→En) (e:En) (h:i≠k):upd f k e i=f i:=if_neg h
theorem Tx (f:Nat→En) (k:Nat) (e:En) (hk:k<64):
  (((aU f).setIfInBounds (k * 3) (.int .i64 e.who)).setIfInBounds (k * 3+1) (.int .i64 e.aB)).setIfInBounds (k * 3+2) (.int .i64 e.dx)=aU (upd f k e):=by
 apply Array.ext
 ·simp
 ·intro i h1 h2;simp at h1;rw [Array.getElem_setIfInBounds (by simpa using h1),Array.getElem_setIfInBounds (by simpa using h1),Array.getElem_setIfInBounds (by simpa using h1)];simp only [aU,Array.getElem_ofFn];by_cases h:i/3=k
  ·rw [h,upd_same];by_cases c2:k * 3+2=i
   ·rw [if_pos c2,show i%3=2 by omega];rfl
   ·by_cases c1:k * 3+1=i
    ·rw [if_neg c2,if_pos c1,show i%3=1 by omega];rfl
    ·rw [if_neg c2,if_neg c1,if_pos (by omega),show i%3=0 by omega];rfl
  ·rw [if_neg (by omega),if_neg (by omega),if_neg (by omega),upd_ne _ _ h]
/- Taken, right, clashing. -/
def cN (e:En):Bool:= !decide (e.aB=0)
def mv (n:Int):Bool:=decide (0≤n)&&decide (n<256)
def w_ (n:Int):Bool:=decide (1≤n)&&decide (n≤200)
def fw (e:En):Bool:=mv e.who&&decide (1≤e.aB)&&decide (e.aB<32768)&&w_ e.dx
def Yy (e:En):Bool:=decide (e.who=0)&&decide (e.aB=0)&&decide (e.dx=0)
def H4 (e:En):Bool:=if cN e then fw e else Yy e
def alike (a b:En):Bool:=decide (a.who=b.who)||decide (a.aB=b.aB)
def xQ (a b:En):Bool:=cN a&&cN b&&alike a b
/- The least slot at which a person is. -/
def at' (f:Nat→En) (x:Int) (i:Nat):Bool:=cN (f i)&&decide ((f i).who=x)
def fd (f:Nat→En) (x:Int):Nat→Nat→Int
 | _,0=> -1
 | k,n+1=>if at' f x k then (k:Int) else fd f x (k+1) n
def fC (f:Nat→En) (x:Int):Int:=fd f x 0 64
theorem Jh (f:Nat→En) (x:Int) (h:k<64):fd f x k (64 - k)=if at' f x k then (k:Int) else fd f x (k+1) (64 - (k+1)):=by
 rw [show 64 - k=(64 - (k+1))+1 by omega,fd]
/- Is the entry at a slot right, beside those ahead of it? -/
def FD (f:Nat→En) (i:Nat):Bool:=H4 (f i)&&(List.range i).all fun m=> !xQ (f m) (f i)
def TN (f:Nat→En) (i:Nat):Bool:=Yy (f i)||(fw (f i)&&(List.range i).all fun m=> !(cN (f m)&&alike (f m) (f i)))
theorem uF (f:Nat→En) (i:Nat):FD f i=TN f i:=by
 unfold FD TN H4
 cases ht:cN (f i) with
 | false=>
  have hb:(f i).aB=0:=by simpa [cN] using ht
  have h1:((List.range i).all fun m=> !xQ (f m) (f i))=true:=by simp [xQ,ht]
  have h2:fw (f i)=false:=by simp [fw,hb]
  rw [h1,h2];simp
 | true=>
  have hb:¬(f i).aB=0:=by simpa [cN] using ht
  have h2:Yy (f i)=false:=by simp [Yy,hb]
  rw [h2];simp [xQ,ht]
def lW (f:Nat→En):Bool:=(List.range 64).all (FD f)
def oA (f:Nat→En):Int:=if lW f then 0 else 31
theorem DV {f:Nat→En} (h:∀j,j<64→FD f j=true):lW f=true:=by
 unfold lW;rw [List.all_eq_true];intro x hx;exact h x (List.mem_range.1 hx)
theorem zv {f:Nat→En} (h:∀j,j<64→FD f j=true):oA f=0:=by unfold oA;rw [DV h];rfl
theorem nw {f:Nat→En} (hk:k<64) (h:FD f k=false):oA f=31:=by
 unfold oA;rw [if_neg];intro hc;unfold lW at hc;rw [List.all_eq_true] at hc;have:=hc k (List.mem_range.2 hk);rw [h] at this;cases this
theorem Q1 {f:Nat→En} (h:lW f=true) (hk:k<64):FD f k=true:=by
 unfold lW at h;rw [List.all_eq_true] at h;exact h k (List.mem_range.2 hk)
theorem po (h:∀m,m<n→p m=false):((List.range n).all fun m=> !p m)=true:=by
 rw [List.all_eq_true];intro m hm;simp [h m (List.mem_range.1 hm)]
theorem rU (hk:k<n) (h:p k=true):((List.range n).all fun m=> !p m)=false:=by
 rw [Bool.eq_false_iff];intro hc;rw [List.all_eq_true] at hc;have:=hc k (List.mem_range.2 hk);rw [h] at this;cases this
/- The taken seats as a word. -/
def BH (f:Nat→En):Nat→Nat
 | 0=>0
 | k+1=>if cN (f k) then put (BH f k) k else BH f k
theorem zT (f:Nat→En):∀k,k≤64→BH f k<18446744073709551616
 | 0,_=>by simp [BH]
 | k+1,h=>by
  unfold BH;split
  ·exact pD (zT f k (by omega)) (by omega)
  ·exact zT f k (by omega)
theorem uw (f:Nat→En) (i:Nat):∀k,(BH f k).testBit i=(decide (i<k)&&cN (f i))
 | 0=>by simp [BH]
 | k+1=>by
  unfold BH;by_cases h:i=k
  ·subst h
   cases ht:cN (f i) with
   | false=>simp [uw f i i]
   | true=>simp [iU]
  ·have e:decide (i<k+1)=decide (i<k):=by simp;omega
   rw [e];split
   ·rw [iU,uw f i k,decide_eq_false (fun e=>h e.symm),Bool.false_or]
   ·exact uw f i k
def tk (f:Nat→En):Nat:=BH f 64
theorem fF (f:Nat→En):tk f<18446744073709551616:=zT f 64 (by omega)
theorem lz (f:Nat→En) (h:i<64):(tk f).testBit i=cN (f i):=by unfold tk;rw [uw];simp [h]
theorem aat (f:Nat→En):wd (fun i=>cN (f i)) 64=tk f:=Xq _ (fF f) fun i hi=>lz f hi
open Go.RowKit
variable {w w':World} {B n:Nat} {f:Nat→En} {e:En}
theorem sA:(prog.info? 37).map (·.size)=some 192:=by kernel_rfl
/- A roster lies in a block. -/
def bg (w:World) (B:Nat) (f:Nat→En):Prop:=w.heap[B]? =some (.cells (aU f) 37 (0,0))
theorem bg.lt (h:bg w B f):B<w.heap.size:=(Array.getElem?_eq_some_iff.1 h).1
theorem bg.below (h:bg w B f) (hb:Below n w w') (hn:B<n):bg w' B f:=(hb.block B hn).trans h
theorem bg.later (h:bg w B f) (hb:Below w.heap.size w w'):bg w' B f:=h.below hb h.lt
theorem bg.new (w:World) (f:Nat→En):bg (w.alloc (.cells (aU f) 37)) w.heap.size f:=heap_alloc_last w _
theorem iV {ops:Array Oper} {rest:List Oper} {o:Oper} {a:Act} {Q:Exit→Act→World→Prop} (h:bg w B f) (hgd:o.guard=none) (x:Operand) (ho:o.op=.load 37 x)
  (hx:a.eval x=.pointer (some ⟨B,0,none⟩)) (k:wpList prog ops Q rest (a.put o.dst (.agg (aU f))) w):wpList prog ops Q (o::rest) a w:=
 wpList_load_row hgd 37 x ho B hx 37 (aU f) (0,0) _ h underlying37 rfl (by rw [fg];exact sA) k
theorem WK (f:Nat→En) (k:Nat) (hk:k<64):(aU f).extract (k * 3) (k * 3+3)=#[.int .i64 (f k).who,.int .i64 (f k).aB,.int .i64 (f k).dx]:=by
 obtain ⟨h0,h1,h2⟩:=Ae f k hk;have hs:=fg f;apply Array.ext
 ·simp;omega
 ·intro i h3 h4;simp at h4;rw [Array.getElem_extract]
  match i,h4 with
  | 0,_=>simpa using (Array.getElem?_eq_some_iff.1 h0).2
  | 1,_=>simpa using (Array.getElem?_eq_some_iff.1 h1).2
  | 2,_=>simpa using (Array.getElem?_eq_some_iff.1 h2).2
theorem Db (f:Nat→En) (k:Nat) (hk:k<64) (W:World):(Instr.index 37 (.agg (aU f)) (.int .i64 (k:Int))).run prog W=.ok (.agg #[.int .i64 (f k).who,.int .i64 (f k).aB,.int .i64 (f k).dx]) W:=by
 have hk2:(k:Int)<64:=by omega
 have hk3:(0:Int)≤(k:Int):=by omega
 have e:=WK f k hk;have hs:=fg f;generalize aU f=c at *;simp [Instr.index,asIntOf,hk2,hk3,part,go_sem,e];omega
theorem ux (h:cN e=true):¬(e.aB=0):=by simpa [cN] using h
theorem p9 (h:cN e=false):e.aB=0:=by simpa [cN] using h
theorem iq (e:En) (w:World):Calls prog 207 #[.agg #[.int .i64 e.who,.int .i64 e.aB,.int .i64 e.dx]] w fun r w'=>r=.returned (.bool (cN e))∧Below w.heap.size w w':=by
 have hB:Below w.heap.size w (w.alloc (.cells #[.int .i64 e.who,.int .i64 e.aB,.int .i64 e.dx] 35)):=(Below.refl _ w).alloc (Nat.le_refl _) _;go_enter func207,ntmps207;go_wp2
 go_ret;exact ⟨ae (by simp [cN];rfl),hB⟩
/- An entry lies in a block. -/
def jW (w:World) (B:Nat) (e:En):Prop:=w.heap[B]? =some (.cells #[.int .i64 e.who,.int .i64 e.aB,.int .i64 e.dx] 35 (0,0))
theorem jW.lt {f:En} (h:jW w B f):B<w.heap.size:=(Array.getElem?_eq_some_iff.1 h).1
theorem jW.below {f:En} (h:jW w B f) (hb:Below n w w') (hn:B<n):jW w' B f:=(hb.block B hn).trans h
theorem jW.later {f:En} (h:jW w B f) (hb:Below w.heap.size w w'):jW w' B f:=h.below hb h.lt
theorem jW.new (w:World) (e:En):jW (w.alloc (.cells #[.int .i64 e.who,.int .i64 e.aB,.int .i64 e.dx] 35)) w.heap.size e:=heap_alloc_last w _
theorem jW.cells (h:jW w B e):w.cell? ⟨B,0,none⟩=some (.int .i64 e.who)∧w.cell? ⟨B,1,none⟩=some (.int .i64 e.aB)∧w.cell? ⟨B,2,none⟩=some (.int .i64 e.dx):=
 ⟨cell_of_row w B 0 _ _ _ h,cell_of_row w B 1 _ _ _ h,cell_of_row w B 2 _ _ _ h⟩
theorem bg.cells (h:bg w B f) (k:Nat) (hk:k<64):w.cell? ⟨B,k * 3,none⟩=some (.int .i64 (f k).who)∧w.cell? ⟨B,k * 3+1,none⟩=some (.int .i64 (f k).aB)∧w.cell? ⟨B,k * 3+2,none⟩=some (.int .i64 (f k).dx):=by
 obtain ⟨h0,h1,h2⟩:=Ae f k hk;exact ⟨(cell_of_row w B _ _ _ _ h).trans h0,(cell_of_row w B _ _ _ _ h).trans h1,(cell_of_row w B _ _ _ _ h).trans h2⟩
theorem fo (w:World) (e:En):Below w.heap.size w (w.alloc (.cells #[.int .i64 e.who,.int .i64 e.aB,.int .i64 e.dx] 35)):=(Below.refl _ w).alloc (Nat.le_refl _) _
theorem dr (w:World) (f:Nat→En):Below w.heap.size w (w.alloc (.cells (aU f) 37)):=(Below.refl _ w).alloc (Nat.le_refl _) _
theorem gX (n:Int) (w:World):Calls prog 247 #[.int .i64 n] w fun e w'=>e=.returned (.bool (mv n))∧w'=w:=by
 by_cases h0:0≤n
 ·by_cases h1:n<256
  ·go_enter func247,ntmps247;go_wp2
   go_ret;exact ⟨ae (by simp [mv,h0,h1]),rfl⟩
  ·go_enter func247,ntmps247;go_wp2
   go_ret;exact ⟨ae (by simp [mv,h0,h1]),rfl⟩
 ·go_enter func247,ntmps247;go_wp2
  go_ret;exact ⟨ae (by simp [mv];omega),rfl⟩
theorem tq (n:Int) (w:World):Calls prog 139 #[.int .i64 n] w fun e w'=>e=.returned (.bool (w_ n))∧w'=w:=by
 by_cases h0:1≤n
 ·by_cases h1:n≤200
  ·go_enter func139,ntmps139;go_wp2
   go_ret;exact ⟨ae (by simp [w_,h0,h1]),rfl⟩
  ·go_enter func139,ntmps139;go_wp2
   go_ret;exact ⟨ae (by simp [w_,h0,h1]),rfl⟩
 ·go_enter func139,ntmps139;go_wp2
  go_ret;exact ⟨ae (by simp [w_];omega),rfl⟩
/- The document's test of an entry. -/
theorem jw (e:En) (w:World):Calls prog 124 #[.agg #[.int .i64 e.who,.int .i64 e.aB,.int .i64 e.dx]] w fun r w'=>r=.returned (.bool (fw e))∧Below w.heap.size w w':=by
 have hB:=fo w e;have hE:fw e=(decide (0≤e.who)&&decide (e.who<256)&&decide (1≤e.aB)&&decide (e.aB<32768)&&(decide (1≤e.dx)&&decide (e.dx≤200))):=rfl;obtain ⟨a,ha⟩:∃a,e.who=a:=⟨_,rfl⟩;obtain ⟨b,hb⟩:∃b,e.aB=b:=⟨_,rfl⟩;obtain ⟨c,hc⟩:∃c,e.dx=c:=⟨_,rfl⟩;rw [ha,hb,hc] at hB hE ⊢;rw [hE];clear hE ha hb hc;by_cases h0:0≤a
 ·by_cases h1:a<256
  ·by_cases h2:1≤b
   ·by_cases h3:b<32768
    ·by_cases h4:1≤c
     ·by_cases h5:c≤200
      ·go_enter func124,ntmps124;go_wp2
       go_ret;exact ⟨ae (by simp [*];try omega),hB⟩
      ·go_enter func124,ntmps124;go_wp2
       go_ret;exact ⟨ae (by simp [*];try omega),hB⟩
     ·go_enter func124,ntmps124;go_wp2
      go_ret;exact ⟨ae (by simp [*];try omega),hB⟩
    ·go_enter func124,ntmps124;go_wp2
     go_ret;exact ⟨ae (by simp [*];try omega),hB⟩
   ·go_enter func124,ntmps124;go_wp2
    go_ret;exact ⟨ae (by simp [*];try omega),hB⟩
  ·go_enter func124,ntmps124;go_wp2
   go_ret;exact ⟨ae (by simp [*];try omega),hB⟩
 ·go_enter func124,ntmps124;go_wp2
  go_ret;exact ⟨ae (by simp [*];try omega),hB⟩
theorem C9 (e:En) (w:World):Calls prog 239 #[.agg #[.int .i64 e.who,.int .i64 e.aB,.int .i64 e.dx]] w fun r w'=>r=.returned (.bool (H4 e))∧Below w.heap.size w w':=by
 have hB:=fo w e;have hN:=jW.new w e;have ht:=iq e;have hW:=gX e.who;have hP:=tq e.dx;have hE:H4 e=if cN e then (mv e.who&&decide (1≤e.aB)&&decide (e.aB<32768)&&w_ e.dx) else (decide (e.who=0)&&decide (e.aB=0)&&decide (e.dx=0)):=rfl
 go_enter func239,ntmps239;go_wp2_with fail
 refine (ht _).mono ?_;rintro r w2 ⟨rfl,hb2⟩;have hN2:=hN.later hb2;have HB:Hid (Below w.heap.size w w2):=hB.trans (hb2.mono hB.size);obtain ⟨c0,c1,c2⟩:=hN2.cells;clear hN hN2 hb2 hB ht;obtain ⟨a,ha⟩:∃a,e.who=a:=⟨_,rfl⟩;obtain ⟨b,hb⟩:∃b,e.aB=b:=⟨_,rfl⟩;obtain ⟨c,hc⟩:∃c,e.dx=c:=⟨_,rfl⟩;rw [ha] at c0 hW ⊢;rw [hb] at c1 ⊢;rw [hc] at c2 hP ⊢;rw [ha,hb,hc] at hE;have HE:Hid (H4 e=if cN e then (mv a&&decide (1≤b)&&decide (b<32768)&&w_ c) else (decide (a=0)&&decide (b=0)&&decide (c=0))):=hE;clear hE
 cases hk:cN e with
 | false=>
  have hb0:b=0:=by rw [←hb];exact p9 hk
  clear ha hb hc hW hP;subst hb0;go_wp2_with fail
  all_goals go_ret
  all_goals exact ⟨ae (by rw [HE.out,hk];simp;try omega),HB.out⟩
 | true=>
  clear ha hb hc
  cases hw:mv a with
  | false=>
   rw [hw] at hW;go_wp2_with (first | (go_at_call 247;refine (hW _).mono ?_;rintro r w' ⟨rfl,rfl⟩))
   go_ret;exact ⟨ae (by rw [HE.out,hk,hw];simp),HB.out⟩
  | true=>
   rw [hw] at hW;by_cases h1:1≤b
   ·by_cases h2:b<32768
    ·go_wp2_with (first | (go_at_call 247;refine (hW _).mono ?_;rintro r w' ⟨rfl,rfl⟩) | (go_at_call 139;refine (hP _).mono ?_;rintro r w' ⟨rfl,rfl⟩))
     go_ret;exact ⟨ae (by rw [HE.out,hk,hw];simp [h1,h2]),HB.out⟩
    ·go_wp2_with (first | (go_at_call 247;refine (hW _).mono ?_;rintro r w' ⟨rfl,rfl⟩))
     go_ret;exact ⟨ae (by rw [HE.out,hk,hw];simp [h2];try omega),HB.out⟩
   ·go_wp2_with (first | (go_at_call 247;refine (hW _).mono ?_;rintro r w' ⟨rfl,rfl⟩))
    go_ret;exact ⟨ae (by rw [HE.out,hk,hw];simp [h1];try omega),HB.out⟩
theorem DU (e d:En) (w:World):Calls prog 240 #[.agg #[.int .i64 e.who,.int .i64 e.aB,.int .i64 e.dx],.agg #[.int .i64 d.who,.int .i64 d.aB,.int .i64 d.dx]] w fun r w'=>r=.returned (.bool (xQ e d))∧Below w.heap.size w w':=by
 have cA:=fo w e;have hN1:=jW.new w e;have xO:=fo (w.alloc (.cells #[.int .i64 e.who,.int .i64 e.aB,.int .i64 e.dx] 35)) d;have hN2:=jW.new (w.alloc (.cells #[.int .i64 e.who,.int .i64 e.aB,.int .i64 e.dx] 35)) d;have aby:=hN1.later xO;have hB:=cA.trans (xO.mono cA.size);have ht:=iq e;have ht2:=iq d;have hE:xQ e d=(cN e&&cN d&&(decide (e.who=d.who)||decide (e.aB=d.aB))):=rfl;go_enter func240,ntmps240;go_wp2_with fail
 refine (ht _).mono ?_;rintro r w2 ⟨rfl,hb2⟩;have Y5:=aby.later hb2;have P7:=hN2.later hb2;have uk:=hB.trans (hb2.mono hB.size);simp only [World.size_alloc] at P7;obtain ⟨c0,c1,c2⟩:=Y5.cells;obtain ⟨d0,d1,d2⟩:=P7.cells;clear hN1 aby hN2 cA xO hB hb2 ht;have HE:Hid (xQ e d=(cN e&&cN d&&(decide (e.who=d.who)||decide (e.aB=d.aB)))):=hE;clear hE
 cases hk:cN e with
 | false=>
  go_wp2_with fail
  go_ret;exact ⟨ae (by rw [HE.out,hk];simp),uk⟩
 | true=>
  go_wp2_with fail
  refine (ht2 _).mono ?_;rintro r w3 ⟨rfl,hb3⟩;have hP3:=Y5.later hb3;have hP4:=P7.later hb3;have Qd:=uk.trans (hb3.mono uk.size);clear c0 c1 c2 d0 d1 d2 Y5 P7 uk hb3 ht2;obtain ⟨c0,c1,c2⟩:=hP3.cells;obtain ⟨d0,d1,d2⟩:=hP4.cells
  cases hk2:cN d with
  | false=>
   go_wp2_with fail
   go_ret;exact ⟨ae (by rw [HE.out,hk,hk2];simp),Qd⟩
  | true=>
   by_cases hw:e.who=d.who
   ·go_wp2_with fail
    go_ret;exact ⟨ae (by rw [HE.out,hk,hk2];simp [hw]),Qd⟩
   ·have hw2:(e.who==d.who)=false:=by simp [hw]
    go_wp2_with fail
    go_ret;exact ⟨ae (by rw [HE.out,hk,hk2];simp [hw];rw [Bool.eq_iff_iff];simp),Qd⟩
set_option maxRecDepth 100000 in
theorem wX (f:Nat→En) (x:Int) (w:World):Calls prog 196 #[.agg (aU f),.int .i64 x] w fun r w'=>r=.returned (.int .i64 (fC f x))∧Below w.heap.size w w':=by
 have hn:=bg.new w f;have cA:=dr w f;go_enter func196,ntmps196;go_upto_region 1 with (fail)
 generalize w.alloc (.cells (aU f) 37)=w1 at *;refine wp_region_lit ?_;refine iV hn rfl _ rfl rfl ?_;obtain ⟨c,hc⟩:∃c,aU f=c:=⟨_,rfl⟩;rw [hc];go_wp2_with fail
 go_loopw [8] (fun i wx=>∃k:Nat,k≤64∧i=.int .i64 (k:Int)∧Below w1.heap.size w1 wx∧fC f x=fd f x k (64 - k)) (fun i _=>64 - (intOf i).toNat)
 case atStart=>exact ⟨0,by omega,rfl,Below.refl _ _,rfl⟩
 case round=>
  obtain ⟨k,hk,rfl,hb,hf⟩:=hrel;have HB:Hid (Below w.heap.size w wr):=cA.trans (hb.mono cA.size);have fE:Hid (Below w1.heap.size w1 wr):=hb;have HF:Hid (fC f x=fd f x k (64 - k)):=hf;clear hb hf;by_cases dA:k<64
  ·have k8:(k:Int)<64:=by omega
   have ht:=iq (f k);have hi:=Db f k dA;rw [hc] at hi;have hE:=jW.new wr (f k);have ui:=fo wr (f k);have HS:Hid (fC f x=if at' f x k then (k:Int) else fd f x (k+1) (64 - (k+1))):=by rw [←Jh f x dA];exact HF.out
   have hat:at' f x k=(cN (f k)&&decide ((f k).who=x)):=rfl;rw [hat] at HS;generalize f k=e at *;clear hc hat HF;go_wp2_with fail
   refine (ht _).mono ?_;rintro r w2 ⟨rfl,hb2⟩;obtain ⟨c0,c1,c2⟩:=(hE.later hb2).cells;have bm:Hid (Below wr.heap.size wr w2):=ui.trans (hb2.mono ui.size);clear hE ui hb2 ht hi
   cases hk:cN e with
   | false=>
    go_wp2_with fail
    go_roundw
    case rel=>exact ⟨k+1,by omega,by go_num,fE.out.trans (bm.out.mono fE.out.size),by rw [HS.out,hk];rfl⟩
    case measure=>simp [intOf];omega
   | true=>
    by_cases hx:e.who=x
    ·go_wp2_with fail
     go_ret;exact ⟨aj (by rw [HS.out,hk,hx];simp),HB.out.trans (bm.out.mono HB.out.size)⟩
    ·go_wp2_with fail
     go_roundw
     case rel=>exact ⟨k+1,by omega,by go_num,fE.out.trans (bm.out.mono fE.out.size),by rw [HS.out,hk];simp [hx]⟩
     case measure=>simp [intOf];omega
  ·obtain rfl:k=64:=by omega
   go_wp2_with fail
   go_ret;exact ⟨aj (by rw [HF.out];rfl),HB.out⟩
set_option maxRecDepth 100000 in
theorem rY (f:Nat→En) (x:Int) (w:World):Calls prog 41 #[.agg (aU f),.int .i64 x] w fun r w'=>r=.returned (.int .i64 (fC f x))∧Below w.heap.size w w':=by
 have hn:=bg.new w f;have cA:=dr w f;go_enter func41,ntmps41;go_upto_region 1 with (fail)
 generalize w.alloc (.cells (aU f) 37)=w1 at *;obtain ⟨c,hc⟩:∃c,aU f=c:=⟨_,rfl⟩;rw [hc];clear hc;go_wp2_with fail
 go_loop [5] (fun i=>∃k:Nat,k≤64∧i=.int .i64 (k:Int)∧fC f x=fd f x k (64 - k)) (fun i=>64 - (intOf i).toNat)
 case atStart=>exact ⟨0,by omega,rfl,rfl⟩
 case round=>
  obtain ⟨k,hk,rfl,hf⟩:=hrel;have HF:Hid (fC f x=fd f x k (64 - k)):=hf;clear hf;by_cases dA:k<64
  ·have k8:(k:Int)<64:=by omega
   have HS:Hid (fC f x=if at' f x k then (k:Int) else fd f x (k+1) (64 - (k+1))):=by rw [←Jh f x dA];exact HF.out
   have hat:at' f x k=(cN (f k)&&decide ((f k).who=x)):=rfl;obtain ⟨c0,c1,c2⟩:=hn.cells k dA;rw [hat] at HS;generalize f k=e at *;clear hat HF hn
   cases ht:cN e with
   | false=>
    have hb0:=p9 ht;go_wp2_with fail
    go_round
    case rel=>exact ⟨k+1,by omega,by go_num,by rw [HS.out,ht];rfl⟩
    case measure=>simp [intOf];omega
   | true=>
    have hb0:=ux ht;by_cases hx:e.who=x
    ·go_wp2_with fail
     go_ret;exact ⟨aj (by rw [HS.out,ht,hx];simp),cA⟩
    ·have q1:(e.aB !=0)=true:=by simp [hb0]
     have q2:(e.who==x)=false:=by simp [hx]
     go_wp2_with fail
     go_round
     case rel=>exact ⟨k+1,by omega,by go_num,by rw [HS.out,ht];simp [hx]⟩
     case measure=>simp [intOf];omega
  ·obtain rfl:k=64:=by omega
   go_wp2_with fail
   go_ret;exact ⟨aj (by rw [HF.out];rfl),cA⟩
set_option maxRecDepth 100000 in
theorem rN (f:Nat→En) (w:World):Calls prog 152 #[.agg (aU f)] w fun r w'=>r=.returned (.int .u64 ((tk f:Nat):Int))∧Below w.heap.size w w':=by
 have hn:=bg.new w f;have cA:=dr w f;go_enter func152,ntmps152;go_upto_region 2 with (fail)
 generalize w.alloc (.cells (aU f) 37)=w1 at *;refine wp_region_lit ?_;refine iV hn rfl _ rfl rfl ?_;obtain ⟨c,hc⟩:∃c,aU f=c:=⟨_,rfl⟩;rw [hc];go_wp2_with fail
 go_loopw [3,7] (fun t i wx=>∃k:Nat,k≤64∧i=.int .i64 (k:Int)∧t=.int .u64 ((BH f k:Nat):Int)∧Below w1.heap.size w1 wx) (fun _ i _=>64 - (intOf i).toNat)
 case atStart=>exact ⟨0,by omega,rfl,rfl,Below.refl _ _⟩
 case round=>
  obtain ⟨k,hk,rfl,rfl,hb⟩:=hrel;have HB:Hid (Below w.heap.size w wr):=cA.trans (hb.mono cA.size);have fE:Hid (Below w1.heap.size w1 wr):=hb;clear hb;by_cases dA:k<64
  ·have k8:(k:Int)<64:=by omega
   have ht:=iq (f k);have hi:=Db f k dA;rw [hc] at hi;have ui:=fo wr (f k);have hp:=uB (BH f k) (zT f k (by omega)) (k:Int);rw [Ah dA] at hp;have hst:BH f (k+1)=if cN (f k) then put (BH f k) k else BH f k:=rfl
   have HST:Hid (BH f (k+1)=if cN (f k) then put (BH f k) k else BH f k):=hst;generalize BH f k=q at *;clear hst;generalize put q k=pq at *;generalize f k=e at *;clear hc;go_wp2_with fail
   refine (ht _).mono ?_;rintro r w2 ⟨rfl,hb2⟩;have bm:Hid (Below wr.heap.size wr w2):=ui.trans (hb2.mono ui.size);clear ui hb2 ht hi
   cases qE:cN e with
   | false=>
    go_wp2_with fail
    go_roundw
    case rel=>exact ⟨k+1,by omega,by go_num,by rw [HST.out,qE];rfl,fE.out.trans (bm.out.mono fE.out.size)⟩
    case measure=>simp [intOf];omega
   | true=>
    go_wp2_with (go_at_call 143;refine (hp _).mono ?_;rintro r w3 ⟨rfl,rfl⟩)
    go_roundw
    case rel=>exact ⟨k+1,by omega,by go_num,by rw [HST.out,qE];rfl,fE.out.trans (bm.out.mono fE.out.size)⟩
    case measure=>simp [intOf];omega
  ·obtain rfl:k=64:=by omega
   go_wp2_with fail
   go_ret;exact ⟨rfl,HB.out⟩
/- The document's Taken. -/
def oY (f:Nat→En) (k:Nat):Array Value:=pE fun i=>decide (i<k)&&cN (f i)
theorem MO (f:Nat→En):oY f 0=pE fun _=>false:=ji fun i _=>by simp
theorem S3 (f:Nat→En):oY f 64=pE fun i=>cN (f i):=ji fun i hi=>by simp [hi]
theorem S0 (f:Nat→En) (k:Nat) (hk:k<64):(oY f k).setIfInBounds k (.bool (cN (f k)))=oY f (k+1):=by
 unfold oY;rw [Ia _ _ _ hk];apply ji
 intro i hi;by_cases h:i=k
 ·subst h;simp
 ·rw [if_neg h,show decide (i<k)=decide (i<k+1) by simp;omega]
theorem S1 (f:Nat→En) (k:Nat) (hk:k<64):(oY f k)[k]? =some (.bool false):=by
 unfold oY;rw [uC _ _ hk];simp
@[simp] theorem MP (f:Nat→En) (k:Nat):(oY f k).size=64:=by simp [oY]
theorem bz {w:World} {a:Addr} {v:Value} (h:w.cell? a=some v) (o:Obj):(w.alloc o).cell? a=some v:=cell_later ((Below.refl _ w).alloc (Nat.le_refl _) o) h
set_option maxRecDepth 100000 in
theorem Fh (f:Nat→En) (w:World):Calls prog 82 #[.agg (aU f)] w fun r w'=>r=.returned (.int .u64 ((tk f:Nat):Int))∧Below w.heap.size w w':=by
 have hn:=bg.new w f;have cA:=dr w f;go_enter func82,ntmps82;go_upto_region 1 with (fail)
 have hsz:w.heap.size+1=(w.alloc (.cells (aU f) 37)).heap.size:=by simp
 generalize w.alloc (.cells (aU f) 37)=w1 at *;obtain ⟨c,hc⟩:∃c,aU f=c:=⟨_,rfl⟩;rw [hc];clear hc hsz;go_wp2_with fail
 rw [show (#[Value.bool false,Value.bool false,Value.bool false,Value.bool false,Value.bool false,Value.bool false,Value.bool false,Value.bool false,Value.bool false,Value.bool false,Value.bool false,Value.bool false,Value.bool false,Value.bool false,Value.bool false,Value.bool false,Value.bool false,Value.bool false,Value.bool false,Value.bool false,Value.bool false,Value.bool false,Value.bool false,Value.bool false,Value.bool false,Value.bool false,Value.bool false,Value.bool false,Value.bool false,Value.bool false,Value.bool false,Value.bool false,Value.bool false,Value.bool false,Value.bool false,Value.bool false,Value.bool false,Value.bool false,Value.bool false,Value.bool false,Value.bool false,Value.bool false,Value.bool false,Value.bool false,Value.bool false,Value.bool false,Value.bool false,Value.bool false,Value.bool false,Value.bool false,Value.bool false,Value.bool false,Value.bool false,Value.bool false,Value.bool false,Value.bool false,Value.bool false,Value.bool false,Value.bool false,Value.bool false,Value.bool false,Value.bool false,Value.bool false,Value.bool false]:Array Value)=pE (fun _=>false) from rfl,←MO f];go_loopw [4] (fun i wx=>∃k:Nat,k≤64∧i=.int .i64 (k:Int)∧wx=w1.alloc (.cells (oY f k) 238)) (fun i _=>64 - (intOf i).toNat)
 case atStart=>exact ⟨0,by omega,rfl,rfl⟩
 case round=>
  obtain ⟨k,hk,rfl,rfl⟩:=hrel;by_cases dA:k<64
  ·have k8:(k:Int)<64:=by omega
   have AP:=S1 f k dA;have Ps:=S0 f k dA;obtain ⟨c0,c1,c2⟩:=hn.cells k dA;have d1:=fun o=>bz c1 o
   have HS:Hid ((oY f k).setIfInBounds k (.bool (cN (f k)))=oY f (k+1)):=Ps;clear Ps c0 c1 c2 hn;have jo:(!decide ((f k).aB=0))=cN (f k):=rfl;go_wp2_with fail
   go_roundw
   case rel=>
    refine ⟨k+1,by omega,by go_num,?_⟩;have hb:((f k).aB !=0)=cN (f k):=by rw [←jo];rfl
    rw [hb,HS.out]
   case measure=>simp [intOf];omega
  ·obtain rfl:k=64:=by omega
   have hP:=heap_alloc_last w1 (.cells (oY f 64) 238);have xO:Below w.heap.size w (w1.alloc (.cells (oY f 64) 238)):=cA.trans (((Below.refl _ w1).alloc (Nat.le_refl _) _).mono cA.size);have hw:=MF (fun i=>cN (f i));rw [aat,←S3] at hw;generalize w1.alloc (.cells (oY f 64) 238)=w2 at *;go_upto_region 6 with (fail)
   refine wp_region_lit ?_;refine wpList_load_row rfl 238 _ rfl w1.heap.size rfl 238 (oY f 64) (0,0) _ hP underlying238 rfl (by rw [MP];exact wH) ?_;generalize oY f 64=c2 at *;go_wp2_with fail
   refine (hw _).mono ?_;rintro r w3 ⟨rfl,hb3⟩;clear hw;go_wp2_with fail
   go_ret;exact ⟨rfl,xO.trans (hb3.mono xO.size)⟩
open Go.RowKit Go.Great
def Ml (a b:En):Bool:=decide (a.who=b.who)&&decide (a.aB=b.aB)&&decide (a.dx=b.dx)
theorem Jp {a b:En}:Ml a b=true↔a=b:=by
 simp only [Ml,Bool.and_eq_true,decide_eq_true_eq];exact ⟨fun h=>En.ext' h.1.1 h.1.2 h.2,fun h=>by subst h;simp⟩
theorem vt (d:Nat) (a b:En) (w:World):(Op.equalIn (d+2) 35 (.agg #[.int .i64 a.who,.int .i64 a.aB,.int .i64 a.dx]) (.agg #[.int .i64 b.who,.int .i64 b.aB,.int .i64 b.dx])).run prog w=.ok (Ml a b) w:=by
 have e1:∀x y:Int,(x==y)=decide (x=y):=fun x y=>by rw [Bool.eq_iff_iff];simp
 rw [run_equalIn_agg w (d+1) 35 _ _ (by kernel_rfl) (by kernel_rfl)];by_cases h1:a.who=b.who <;> by_cases h2:a.aB=b.aB <;> by_cases h3:a.dx=b.dx <;> simp [Ml,go_sem,part,h1,h2,h3]
def Zn (f g:Nat→En):Bool:=(List.range 64).all fun i=>Ml (f i) (g i)
theorem U1 {f g:Nat→En}:Zn f g=true↔∀i,i<64→f i=g i:=by
 unfold Zn;rw [List.all_eq_true];exact ⟨fun h i hi=>Jp.1 (h i (List.mem_range.2 hi)),fun h i hi=>Jp.2 (h i (List.mem_range.1 hi))⟩
theorem QA (f:Nat→En):Zn f f=true:=U1.2 fun _ _=>rfl
theorem Oh (f:Nat→En) (i:Nat) (hi:i<64) (w:World):(part 35 (aU f) (i * 3)).run prog w=.ok (.agg #[.int .i64 (f i).who,.int .i64 (f i).aB,.int .i64 (f i).dx]) w:=by
 have e:=WK f i hi;simp [part,go_sem,e]
theorem zq (f g:Nat→En) (d:Nat) (w:World):∀l:List Nat,(∀i∈l,i<64)→(Op.eqItems (d+2) 35 3 (aU f) (aU g) l).run prog w=.ok (l.all fun i=>Ml (f i) (g i)) w
 | [],_=>by simp [Op.eqItems]
 | i::l,h=>by
  have hi:=h i (by simp);have ih:=zq f g d w l fun j hj=>h j (by simp [hj])
  cases he:Ml (f i) (g i) with
  | false=>simp [Op.eqItems,Sem.run_bind,Sem.run_ite,Oh _ i hi,Result.andThen_ok,vt d,he]
  | true=>simp [Op.eqItems,Sem.run_bind,Sem.run_ite,Oh _ i hi,Result.andThen_ok,vt d,he,ih]
theorem T7:(prog.info? 35).isSome=true:=by kernel_rfl
theorem Q3:prog.cellsOf 35=3:=by kernel_rfl
theorem abH {ops:Array Oper} {rest:List Oper} {o:Oper} {a:Act} {w:World} {Q:Exit→Act→World→Prop} {e d:En} {b:Bool} (hb:Ml e d=b) (hgd:o.guard=none) (x y:Operand) (ho:o.op=.binOp .eql 35 x y 35)
  (hx:a.eval x=.agg #[.int .i64 e.who,.int .i64 e.aB,.int .i64 e.dx]) (hy:a.eval y=.agg #[.int .i64 d.who,.int .i64 d.aB,.int .i64 d.dx]) (k:wpList prog ops Q rest (a.put o.dst (.bool b)) w):wpList prog ops Q (o::rest) a w:=by
 subst hb;refine wpList_readTo hgd o.dst rfl (.bool (Ml e d)) ?_ k;have h1:=run_eqGuard_agg (P:=prog) w .eql 35 x y #[.int .i64 e.who,.int .i64 e.aB,.int .i64 e.dx] #[.int .i64 d.who,.int .i64 d.aB,.int .i64 d.dx] eqGuardType35;have h2:=run_eql_struct (P:=prog) w 35 #[.int .i64 e.who,.int .i64 e.aB,.int .i64 e.dx] #[.int .i64 d.who,.int .i64 d.aB,.int .i64 d.dx];rw [vt 9998] at h2;simp [execOp,ho,hx,hy,h1,h2,Sem.run_bind,Result.andThen]
end Go.Proofs.YtanaapfobpgibaaGreatDoor.Rs
