/- RsMath, RsA, RsB, RsEq, RsC, RsMath2, joined. -/
import Derived.Test.YtoimkngkcliinaaGreatDoorJStMath
import Derived.WalkKit
import Derived.Test.YtoimkngkcliinaaGreatDoorJStF
import Derived.Great.Walk
import Derived.ChangeKeysEq
import Derived.BigQuiet
import Derived.Deep.DeepCutAuto
namespace Go.Proofs.YtoimkngkcliinaaGreatDoor.Rs
set_option linter.unusedVariables false
set_option maxRecDepth 4000
set_option linter.unusedSimpArgs false
/- An entry. -/
structure En where
 who:Int
 bas:Int
 snc:Int
theorem En.ext' {a b:En} (h1:a.who=b.who) (h2:a.bas=b.bas) (h3:a.snc=b.snc):a=b:=by cases a;cases b;simp_all
def zE:En:=⟨0,0,0⟩
def En.fld (e:En) (k:Nat):Int:=if k=0 then e.who else if k=1 then e.bas else e.snc
/- The 64 entries as cells. -/
def rcs (f:Nat→En):Array Value:=Array.ofFn (n:=192) fun i=>.int .i64 ((f (i.1/3)).fld (i.1%3))
@[simp] theorem rcs_size (f:Nat→En):(rcs f).size=192:=by simp [rcs]
theorem rcs_at (f:Nat→En) (j:Nat) (h:j<192):(rcs f)[j]? =some (.int .i64 ((f (j/3)).fld (j%3))):=by
 rw [Array.getElem?_eq_getElem (by simpa using h)];simp [rcs]
theorem rcs_get (f:Nat→En) (i:Nat) (h:i<64):(rcs f)[i * 3]? =some (.int .i64 (f i).who)∧(rcs f)[i * 3+1]? =some (.int .i64 (f i).bas)∧(rcs f)[i * 3+2]? =some (.int .i64 (f i).snc):=by
 refine ⟨?_,?_,?_⟩
 ·rw [rcs_at f _ (by omega),show i * 3/3=i by omega,show i * 3%3=0 by omega];rfl
 ·rw [rcs_at f _ (by omega),show (i * 3+1)/3=i by omega,show (i * 3+1)%3=1 by omega];rfl
 ·rw [rcs_at f _ (by omega),show (i * 3+2)/3=i by omega,show (i * 3+2)%3=2 by omega];rfl
theorem rcs_one (f:Nat→En):(rcs f).all (·.oneCell')=true:=by
 rw [Array.all_eq_true];intro i h;simp [rcs,Value.oneCell']
def upd (f:Nat→En) (k:Nat) (e:En):Nat→En:=fun i=>if i=k then e else f i
theorem upd_same (f:Nat→En) (k:Nat) (e:En):upd f k e k=e:=if_pos rfl
theorem upd_ne (f:Nat→En) {k i:Nat} (e:En) (h:i≠k):upd f k e i=f i:=if_neg h
theorem rcs_set (f:Nat→En) (k:Nat) (e:En) (hk:k<64):
  (((rcs f).setIfInBounds (k * 3) (.int .i64 e.who)).setIfInBounds (k * 3+1) (.int .i64 e.bas)).setIfInBounds (k * 3+2) (.int .i64 e.snc)=rcs (upd f k e):=by
 apply Array.ext
 ·simp
 ·intro i h1 h2;simp at h1;rw [Array.getElem_setIfInBounds (by simpa using h1),Array.getElem_setIfInBounds (by simpa using h1),Array.getElem_setIfInBounds (by simpa using h1)];simp only [rcs,Array.getElem_ofFn];by_cases h:i/3=k
  ·rw [h,upd_same];by_cases c2:k * 3+2=i
   ·rw [if_pos c2,show i%3=2 by omega];rfl
   ·by_cases c1:k * 3+1=i
    ·rw [if_neg c2,if_pos c1,show i%3=1 by omega];rfl
    ·rw [if_neg c2,if_neg c1,if_pos (by omega),show i%3=0 by omega];rfl
  ·rw [if_neg (by omega),if_neg (by omega),if_neg (by omega),upd_ne _ _ h]
/- Taken, right, clashing. -/
def tkn (e:En):Bool:= !decide (e.bas=0)
def wok (n:Int):Bool:=decide (0≤n)&&decide (n<256)
def eok (n:Int):Bool:=decide (1≤n)&&decide (n≤200)
def rgt (e:En):Bool:=wok e.who&&decide (1≤e.bas)&&decide (e.bas<32768)&&eok e.snc
def isz (e:En):Bool:=decide (e.who=0)&&decide (e.bas=0)&&decide (e.snc=0)
def rgp (e:En):Bool:=if tkn e then rgt e else isz e
def alike (a b:En):Bool:=decide (a.who=b.who)||decide (a.bas=b.bas)
def clh (a b:En):Bool:=tkn a&&tkn b&&alike a b
/- The least slot at which a person is. -/
def at' (f:Nat→En) (x:Int) (i:Nat):Bool:=tkn (f i)&&decide ((f i).who=x)
def fd (f:Nat→En) (x:Int):Nat→Nat→Int
 | _,0=> -1
 | k,n+1=>if at' f x k then (k:Int) else fd f x (k+1) n
def fnd (f:Nat→En) (x:Int):Int:=fd f x 0 64
theorem fd_step (f:Nat→En) (x:Int) {k:Nat} (h:k<64):fd f x k (64 - k)=if at' f x k then (k:Int) else fd f x (k+1) (64 - (k+1)):=by
 rw [show 64 - k=(64 - (k+1))+1 by omega,fd]
/- Is the entry at a slot right, beside those ahead of it? -/
def okp (f:Nat→En) (i:Nat):Bool:=rgp (f i)&&(List.range i).all fun m=> !clh (f m) (f i)
def chk (f:Nat→En):Bool:=(List.range 64).all (okp f)
def chkE (f:Nat→En):Int:=if chk f then 0 else 31
theorem chk_good {f:Nat→En} (h:∀j,j<64→okp f j=true):chk f=true:=by
 unfold chk;rw [List.all_eq_true];intro x hx;exact h x (List.mem_range.1 hx)
theorem chkE_good {f:Nat→En} (h:∀j,j<64→okp f j=true):chkE f=0:=by unfold chkE;rw [chk_good h];rfl
theorem chkE_bad {f:Nat→En} {k:Nat} (hk:k<64) (h:okp f k=false):chkE f=31:=by
 unfold chkE;rw [if_neg];intro hc;unfold chk at hc;rw [List.all_eq_true] at hc;have:=hc k (List.mem_range.2 hk);rw [h] at this;cases this
theorem chk_at {f:Nat→En} (h:chk f=true) {k:Nat} (hk:k<64):okp f k=true:=by
 unfold chk at h;rw [List.all_eq_true] at h;exact h k (List.mem_range.2 hk)
theorem range_good {n:Nat} {p:Nat→Bool} (h:∀m,m<n→p m=false):((List.range n).all fun m=> !p m)=true:=by
 rw [List.all_eq_true];intro m hm;simp [h m (List.mem_range.1 hm)]
theorem range_bad {n k:Nat} {p:Nat→Bool} (hk:k<n) (h:p k=true):((List.range n).all fun m=> !p m)=false:=by
 rw [Bool.eq_false_iff];intro hc;rw [List.all_eq_true] at hc;have:=hc k (List.mem_range.2 hk);rw [h] at this;cases this
/- The taken seats as a word. -/
def tkw (f:Nat→En):Nat→Nat
 | 0=>0
 | k+1=>if tkn (f k) then put (tkw f k) k else tkw f k
theorem tkw_lt (f:Nat→En):∀k,k≤64→tkw f k<18446744073709551616
 | 0,_=>by simp [tkw]
 | k+1,h=>by
  unfold tkw;split
  ·exact put_lt (tkw_lt f k (by omega)) (by omega)
  ·exact tkw_lt f k (by omega)
theorem tkw_bit (f:Nat→En) (i:Nat):∀k,(tkw f k).testBit i=(decide (i<k)&&tkn (f i))
 | 0=>by simp [tkw]
 | k+1=>by
  unfold tkw;by_cases h:i=k
  ·subst h
   cases ht:tkn (f i) with
   | false=>simp [tkw_bit f i i]
   | true=>simp [put_bit]
  ·have e:decide (i<k+1)=decide (i<k):=by simp;omega
   rw [e];split
   ·rw [put_bit,tkw_bit f i k,decide_eq_false (fun e=>h e.symm),Bool.false_or]
   ·exact tkw_bit f i k
def tk (f:Nat→En):Nat:=tkw f 64
theorem tk_lt (f:Nat→En):tk f<18446744073709551616:=tkw_lt f 64 (by omega)
theorem tk_bit (f:Nat→En) {i:Nat} (h:i<64):(tk f).testBit i=tkn (f i):=by unfold tk;rw [tkw_bit];simp [h]
open Go.RowKit
theorem info25:(Tryz.prog.info? 52).map (·.size)=some 192:=by kernel_rfl
/- A roster lies in a block. -/
def RoAt (w:World) (B:Nat) (f:Nat→En):Prop:=w.heap[B]? =some (.cells (rcs f) 52 (0,0))
theorem RoAt.lt {w:World} {B:Nat} {f:Nat→En} (h:RoAt w B f):B<w.heap.size:=(Array.getElem?_eq_some_iff.1 h).1
theorem RoAt.below {n:Nat} {w w':World} {B:Nat} {f:Nat→En} (h:RoAt w B f) (hb:Below n w w') (hn:B<n):RoAt w' B f:=(hb.block B hn).trans h
theorem RoAt.later {w w':World} {B:Nat} {f:Nat→En} (h:RoAt w B f) (hb:Below w.heap.size w w'):RoAt w' B f:=h.below hb h.lt
theorem RoAt.new (w:World) (f:Nat→En):RoAt (w.alloc (.cells (rcs f) 52)) w.heap.size f:=heap_alloc_last w _
theorem ld25 {ops:Array Oper} {rest:List Oper} {o:Oper} {a:Act} {w:World} {Q:Exit→Act→World→Prop} {B:Nat} {f:Nat→En} (h:RoAt w B f) (hgd:o.guard=none) (x:Operand) (ho:o.op=.load 52 x)
  (hx:a.eval x=.pointer (some ⟨B,0,none⟩)) (k:wpList Tryz.prog ops Q rest (a.put o.dst (.agg (rcs f))) w):wpList Tryz.prog ops Q (o::rest) a w:=
 wpList_load_row hgd 52 x ho B hx 52 (rcs f) (0,0) _ h Tryz.underlying52 rfl (by rw [rcs_size];exact info25) k
theorem ext25 (f:Nat→En) (k:Nat) (hk:k<64):(rcs f).extract (k * 3) (k * 3+3)=#[.int .i64 (f k).who,.int .i64 (f k).bas,.int .i64 (f k).snc]:=by
 obtain ⟨h0,h1,h2⟩:=rcs_get f k hk;have hs:=rcs_size f;apply Array.ext
 ·simp;omega
 ·intro i h3 h4;simp at h4;rw [Array.getElem_extract]
  match i,h4 with
  | 0,_=>simpa using (Array.getElem?_eq_some_iff.1 h0).2
  | 1,_=>simpa using (Array.getElem?_eq_some_iff.1 h1).2
  | 2,_=>simpa using (Array.getElem?_eq_some_iff.1 h2).2
theorem idx25 (f:Nat→En) (k:Nat) (hk:k<64) (W:World):(Instr.index 52 (.agg (rcs f)) (.int .i64 (k:Int))).run Tryz.prog W=.ok (.agg #[.int .i64 (f k).who,.int .i64 (f k).bas,.int .i64 (f k).snc]) W:=by
 have hk2:(k:Int)<64:=by omega
 have hk3:(0:Int)≤(k:Int):=by omega
 have e:=ext25 f k hk;have hs:=rcs_size f;generalize rcs f=c at *;simp [Instr.index,asIntOf,hk2,hk3,part,go_sem,e];omega
theorem tkn_pos {e:En} (h:tkn e=true):¬(e.bas=0):=by simpa [tkn] using h
theorem tkn_neg {e:En} (h:tkn e=false):e.bas=0:=by simpa [tkn] using h
theorem isTaken_any (e:En) (w:World):Calls Tryz.prog 173 #[.agg #[.int .i64 e.who,.int .i64 e.bas,.int .i64 e.snc]] w fun r w'=>r=.returned (.bool (tkn e))∧Below w.heap.size w w':=by
 have hB:Below w.heap.size w (w.alloc (.cells #[.int .i64 e.who,.int .i64 e.bas,.int .i64 e.snc] 50)):=(Below.refl _ w).alloc (Nat.le_refl _) _;go_enter Tryz.func173,Tryz.ntmps173;go_wp2
 go_ret;exact ⟨ret_bool (by simp [tkn];rfl),hB⟩
/- An entry lies in a block. -/
def EnAt (w:World) (B:Nat) (e:En):Prop:=w.heap[B]? =some (.cells #[.int .i64 e.who,.int .i64 e.bas,.int .i64 e.snc] 50 (0,0))
theorem EnAt.lt {w:World} {B:Nat} {f:En} (h:EnAt w B f):B<w.heap.size:=(Array.getElem?_eq_some_iff.1 h).1
theorem EnAt.below {n:Nat} {w w':World} {B:Nat} {f:En} (h:EnAt w B f) (hb:Below n w w') (hn:B<n):EnAt w' B f:=(hb.block B hn).trans h
theorem EnAt.later {w w':World} {B:Nat} {f:En} (h:EnAt w B f) (hb:Below w.heap.size w w'):EnAt w' B f:=h.below hb h.lt
theorem EnAt.new (w:World) (e:En):EnAt (w.alloc (.cells #[.int .i64 e.who,.int .i64 e.bas,.int .i64 e.snc] 50)) w.heap.size e:=heap_alloc_last w _
theorem EnAt.cells {w:World} {B:Nat} {e:En} (h:EnAt w B e):w.cell? ⟨B,0,none⟩=some (.int .i64 e.who)∧w.cell? ⟨B,1,none⟩=some (.int .i64 e.bas)∧w.cell? ⟨B,2,none⟩=some (.int .i64 e.snc):=
 ⟨cell_of_row w B 0 _ _ _ h,cell_of_row w B 1 _ _ _ h,cell_of_row w B 2 _ _ _ h⟩
theorem RoAt.cells {w:World} {B:Nat} {f:Nat→En} (h:RoAt w B f) (k:Nat) (hk:k<64):w.cell? ⟨B,k * 3,none⟩=some (.int .i64 (f k).who)∧w.cell? ⟨B,k * 3+1,none⟩=some (.int .i64 (f k).bas)∧w.cell? ⟨B,k * 3+2,none⟩=some (.int .i64 (f k).snc):=by
 obtain ⟨h0,h1,h2⟩:=rcs_get f k hk;exact ⟨(cell_of_row w B _ _ _ _ h).trans h0,(cell_of_row w B _ _ _ _ h).trans h1,(cell_of_row w B _ _ _ _ h).trans h2⟩
theorem alloc_en (w:World) (e:En):Below w.heap.size w (w.alloc (.cells #[.int .i64 e.who,.int .i64 e.bas,.int .i64 e.snc] 50)):=(Below.refl _ w).alloc (Nat.le_refl _) _
theorem alloc_ro (w:World) (f:Nat→En):Below w.heap.size w (w.alloc (.cells (rcs f) 52)):=(Below.refl _ w).alloc (Nat.le_refl _) _
theorem isWho_any (n:Int) (w:World):Calls Tryz.prog 293 #[.int .i64 n] w fun e w'=>e=.returned (.bool (wok n))∧w'=w:=by
 by_cases h0:0≤n
 ·by_cases h1:n<256
  ·go_enter Tryz.func293,Tryz.ntmps293;go_wp2
   go_ret;exact ⟨ret_bool (by simp [wok,h0,h1]),rfl⟩
  ·go_enter Tryz.func293,Tryz.ntmps293;go_wp2
   go_ret;exact ⟨ret_bool (by simp [wok,h0,h1]),rfl⟩
 ·go_enter Tryz.func293,Tryz.ntmps293;go_wp2
  go_ret;exact ⟨ret_bool (by simp [wok];omega),rfl⟩
theorem isEpoch_any (n:Int) (w:World):Calls Tryz.prog 247 #[.int .i64 n] w fun e w'=>e=.returned (.bool (eok n))∧w'=w:=by
 by_cases h0:1≤n
 ·by_cases h1:n≤200
  ·go_enter Tryz.func247,Tryz.ntmps247;go_wp2
   go_ret;exact ⟨ret_bool (by simp [eok,h0,h1]),rfl⟩
  ·go_enter Tryz.func247,Tryz.ntmps247;go_wp2
   go_ret;exact ⟨ret_bool (by simp [eok,h0,h1]),rfl⟩
 ·go_enter Tryz.func247,Tryz.ntmps247;go_wp2
  go_ret;exact ⟨ret_bool (by simp [eok];omega),rfl⟩
set_option maxHeartbeats 1000000 in
theorem isRight_any (e:En) (w:World):Calls Tryz.prog 227 #[.agg #[.int .i64 e.who,.int .i64 e.bas,.int .i64 e.snc]] w fun r w'=>r=.returned (.bool (rgp e))∧Below w.heap.size w w':=by
 have hB:=alloc_en w e;have hN:=EnAt.new w e;have ht:=isTaken_any e;have hW:=isWho_any e.who;have hP:=isEpoch_any e.snc;have hE:rgp e=if tkn e then (wok e.who&&decide (1≤e.bas)&&decide (e.bas<32768)&&eok e.snc) else (decide (e.who=0)&&decide (e.bas=0)&&decide (e.snc=0)):=rfl
 go_enter Tryz.func227,Tryz.ntmps227;go_wp2_with fail
 refine (ht _).mono ?_;rintro r w2 ⟨rfl,hb2⟩;have hN2:=hN.later hb2;have HB:Hid (Below w.heap.size w w2):=hB.trans (hb2.mono hB.size);obtain ⟨c0,c1,c2⟩:=hN2.cells;clear hN hN2 hb2 hB ht;obtain ⟨a,ha⟩:∃a,e.who=a:=⟨_,rfl⟩;obtain ⟨b,hb⟩:∃b,e.bas=b:=⟨_,rfl⟩;obtain ⟨c,hc⟩:∃c,e.snc=c:=⟨_,rfl⟩;rw [ha] at c0 hW ⊢;rw [hb] at c1 ⊢;rw [hc] at c2 hP ⊢;rw [ha,hb,hc] at hE;have HE:Hid (rgp e=if tkn e then (wok a&&decide (1≤b)&&decide (b<32768)&&eok c) else (decide (a=0)&&decide (b=0)&&decide (c=0))):=hE;clear hE
 cases hk:tkn e with
 | false=>
  have hb0:b=0:=by rw [←hb];exact tkn_neg hk
  clear ha hb hc hW hP;subst hb0;go_wp2_with fail
  all_goals go_ret
  all_goals exact ⟨ret_bool (by rw [HE.out,hk];simp;try omega),HB.out⟩
 | true=>
  clear ha hb hc
  cases hw:wok a with
  | false=>
   rw [hw] at hW;go_wp2_with (first | (go_at_call 293;refine (hW _).mono ?_;rintro r w' ⟨rfl,rfl⟩))
   go_ret;exact ⟨ret_bool (by rw [HE.out,hk,hw];simp),HB.out⟩
  | true=>
   rw [hw] at hW;by_cases h1:1≤b
   ·by_cases h2:b<32768
    ·go_wp2_with (first | (go_at_call 293;refine (hW _).mono ?_;rintro r w' ⟨rfl,rfl⟩) | (go_at_call 247;refine (hP _).mono ?_;rintro r w' ⟨rfl,rfl⟩))
     go_ret;exact ⟨ret_bool (by rw [HE.out,hk,hw];simp [h1,h2]),HB.out⟩
    ·go_wp2_with (first | (go_at_call 293;refine (hW _).mono ?_;rintro r w' ⟨rfl,rfl⟩))
     go_ret;exact ⟨ret_bool (by rw [HE.out,hk,hw];simp [h2];try omega),HB.out⟩
   ·go_wp2_with (first | (go_at_call 293;refine (hW _).mono ?_;rintro r w' ⟨rfl,rfl⟩))
    go_ret;exact ⟨ret_bool (by rw [HE.out,hk,hw];simp [h1];try omega),HB.out⟩
set_option maxHeartbeats 1000000 in
theorem clashes_any (e d:En) (w:World):Calls Tryz.prog 228 #[.agg #[.int .i64 e.who,.int .i64 e.bas,.int .i64 e.snc],.agg #[.int .i64 d.who,.int .i64 d.bas,.int .i64 d.snc]] w fun r w'=>r=.returned (.bool (clh e d))∧Below w.heap.size w w':=by
 have hB1:=alloc_en w e;have hN1:=EnAt.new w e;have hB2:=alloc_en (w.alloc (.cells #[.int .i64 e.who,.int .i64 e.bas,.int .i64 e.snc] 50)) d;have hN2:=EnAt.new (w.alloc (.cells #[.int .i64 e.who,.int .i64 e.bas,.int .i64 e.snc] 50)) d;have hN1':=hN1.later hB2;have hB:=hB1.trans (hB2.mono hB1.size);have ht:=isTaken_any e;have ht2:=isTaken_any d;have hE:clh e d=(tkn e&&tkn d&&(decide (e.who=d.who)||decide (e.bas=d.bas))):=rfl;go_enter Tryz.func228,Tryz.ntmps228;go_wp2_with fail
 refine (ht _).mono ?_;rintro r w2 ⟨rfl,hb2⟩;have hP1:=hN1'.later hb2;have hP2:=hN2.later hb2;have hB3:=hB.trans (hb2.mono hB.size);simp only [World.size_alloc] at hP2;obtain ⟨c0,c1,c2⟩:=hP1.cells;obtain ⟨d0,d1,d2⟩:=hP2.cells;clear hN1 hN1' hN2 hB1 hB2 hB hb2 ht;have HE:Hid (clh e d=(tkn e&&tkn d&&(decide (e.who=d.who)||decide (e.bas=d.bas)))):=hE;clear hE
 cases hk:tkn e with
 | false=>
  go_wp2_with fail
  go_ret;exact ⟨ret_bool (by rw [HE.out,hk];simp),hB3⟩
 | true=>
  go_wp2_with fail
  refine (ht2 _).mono ?_;rintro r w3 ⟨rfl,hb3⟩;have hP3:=hP1.later hb3;have hP4:=hP2.later hb3;have hB4:=hB3.trans (hb3.mono hB3.size);clear c0 c1 c2 d0 d1 d2 hP1 hP2 hB3 hb3 ht2;obtain ⟨c0,c1,c2⟩:=hP3.cells;obtain ⟨d0,d1,d2⟩:=hP4.cells
  cases hk2:tkn d with
  | false=>
   go_wp2_with fail
   go_ret;exact ⟨ret_bool (by rw [HE.out,hk,hk2];simp),hB4⟩
  | true=>
   by_cases hw:e.who=d.who
   ·go_wp2_with fail
    go_ret;exact ⟨ret_bool (by rw [HE.out,hk,hk2];simp [hw]),hB4⟩
   ·have hw2:(e.who==d.who)=false:=by simp [hw]
    go_wp2_with fail
    go_ret;exact ⟨ret_bool (by rw [HE.out,hk,hk2];simp [hw];rw [Bool.eq_iff_iff];simp),hB4⟩
set_option maxRecDepth 100000 in
set_option maxHeartbeats 400000 in
theorem find_any (f:Nat→En) (x:Int) (w:World):Calls Tryz.prog 116 #[.agg (rcs f),.int .i64 x] w fun r w'=>r=.returned (.int .i64 (fnd f x))∧Below w.heap.size w w':=by
 have hn:=RoAt.new w f;have hB1:=alloc_ro w f;go_enter Tryz.func116,Tryz.ntmps116;go_upto_region 1 with (fail)
 generalize w.alloc (.cells (rcs f) 52)=w1 at *;refine wp_region_lit ?_;refine ld25 hn rfl _ rfl rfl ?_;obtain ⟨c,hc⟩:∃c,rcs f=c:=⟨_,rfl⟩;rw [hc];go_wp2_with fail
 go_loopw [8] (fun i wx=>∃k:Nat,k≤64∧i=.int .i64 (k:Int)∧Below w1.heap.size w1 wx∧fnd f x=fd f x k (64 - k)) (fun i _=>64 - (intOf i).toNat)
 case atStart=>exact ⟨0,by omega,rfl,Below.refl _ _,rfl⟩
 case round=>
  obtain ⟨k,hk,rfl,hb,hf⟩:=hrel;have HB:Hid (Below w.heap.size w wr):=hB1.trans (hb.mono hB1.size);have HBW:Hid (Below w1.heap.size w1 wr):=hb;have HF:Hid (fnd f x=fd f x k (64 - k)):=hf;clear hb hf;by_cases hk8:k<64
  ·have k8:(k:Int)<64:=by omega
   have ht:=isTaken_any (f k);have hi:=idx25 f k hk8;rw [hc] at hi;have hE:=EnAt.new wr (f k);have hBE:=alloc_en wr (f k);have HS:Hid (fnd f x=if at' f x k then (k:Int) else fd f x (k+1) (64 - (k+1))):=by rw [←fd_step f x hk8];exact HF.out
   have hat:at' f x k=(tkn (f k)&&decide ((f k).who=x)):=rfl;rw [hat] at HS;generalize f k=e at *;clear hc hat HF;go_wp2_with fail
   refine (ht _).mono ?_;rintro r w2 ⟨rfl,hb2⟩;obtain ⟨c0,c1,c2⟩:=(hE.later hb2).cells;have HB2:Hid (Below wr.heap.size wr w2):=hBE.trans (hb2.mono hBE.size);clear hE hBE hb2 ht hi
   cases hk:tkn e with
   | false=>
    go_wp2_with fail
    go_roundw
    case rel=>exact ⟨k+1,by omega,by go_num,HBW.out.trans (HB2.out.mono HBW.out.size),by rw [HS.out,hk];rfl⟩
    case measure=>simp [intOf];omega
   | true=>
    by_cases hx:e.who=x
    ·go_wp2_with fail
     go_ret;exact ⟨ret_int (by rw [HS.out,hk,hx];simp),HB.out.trans (HB2.out.mono HB.out.size)⟩
    ·go_wp2_with fail
     go_roundw
     case rel=>exact ⟨k+1,by omega,by go_num,HBW.out.trans (HB2.out.mono HBW.out.size),by rw [HS.out,hk];simp [hx]⟩
     case measure=>simp [intOf];omega
  ·obtain rfl:k=64:=by omega
   go_wp2_with fail
   go_ret;exact ⟨ret_int (by rw [HF.out];rfl),HB.out⟩
set_option maxRecDepth 100000 in
set_option maxHeartbeats 400000 in
theorem rFind_any (f:Nat→En) (x:Int) (w:World):Calls Tryz.prog 89 #[.agg (rcs f),.int .i64 x] w fun r w'=>r=.returned (.int .i64 (fnd f x))∧Below w.heap.size w w':=by
 have hn:=RoAt.new w f;have hB1:=alloc_ro w f;go_enter Tryz.func89,Tryz.ntmps89;go_upto_region 1 with (fail)
 generalize w.alloc (.cells (rcs f) 52)=w1 at *;obtain ⟨c,hc⟩:∃c,rcs f=c:=⟨_,rfl⟩;rw [hc];clear hc;go_wp2_with fail
 go_loop [5] (fun i=>∃k:Nat,k≤64∧i=.int .i64 (k:Int)∧fnd f x=fd f x k (64 - k)) (fun i=>64 - (intOf i).toNat)
 case atStart=>exact ⟨0,by omega,rfl,rfl⟩
 case round=>
  obtain ⟨k,hk,rfl,hf⟩:=hrel;have HF:Hid (fnd f x=fd f x k (64 - k)):=hf;clear hf;by_cases hk8:k<64
  ·have k8:(k:Int)<64:=by omega
   have HS:Hid (fnd f x=if at' f x k then (k:Int) else fd f x (k+1) (64 - (k+1))):=by rw [←fd_step f x hk8];exact HF.out
   have hat:at' f x k=(tkn (f k)&&decide ((f k).who=x)):=rfl;obtain ⟨c0,c1,c2⟩:=hn.cells k hk8;rw [hat] at HS;generalize f k=e at *;clear hat HF hn
   cases ht:tkn e with
   | false=>
    have hb0:=tkn_neg ht;go_wp2_with fail
    go_round
    case rel=>exact ⟨k+1,by omega,by go_num,by rw [HS.out,ht];rfl⟩
    case measure=>simp [intOf];omega
   | true=>
    have hb0:=tkn_pos ht;by_cases hx:e.who=x
    ·go_wp2_with fail
     go_ret;exact ⟨ret_int (by rw [HS.out,ht,hx];simp),hB1⟩
    ·have q1:(e.bas !=0)=true:=by simp [hb0]
     have q2:(e.who==x)=false:=by simp [hx]
     go_wp2_with fail
     go_round
     case rel=>exact ⟨k+1,by omega,by go_num,by rw [HS.out,ht];simp [hx]⟩
     case measure=>simp [intOf];omega
  ·obtain rfl:k=64:=by omega
   go_wp2_with fail
   go_ret;exact ⟨ret_int (by rw [HF.out];rfl),hB1⟩
set_option maxRecDepth 100000 in
set_option maxHeartbeats 400000 in
theorem taken_any (f:Nat→En) (w:World):Calls Tryz.prog 257 #[.agg (rcs f)] w fun r w'=>r=.returned (.int .u64 ((tk f:Nat):Int))∧Below w.heap.size w w':=by
 have hn:=RoAt.new w f;have hB1:=alloc_ro w f;go_enter Tryz.func257,Tryz.ntmps257;go_upto_region 2 with (fail)
 generalize w.alloc (.cells (rcs f) 52)=w1 at *;refine wp_region_lit ?_;refine ld25 hn rfl _ rfl rfl ?_;obtain ⟨c,hc⟩:∃c,rcs f=c:=⟨_,rfl⟩;rw [hc];go_wp2_with fail
 go_loopw [3,7] (fun t i wx=>∃k:Nat,k≤64∧i=.int .i64 (k:Int)∧t=.int .u64 ((tkw f k:Nat):Int)∧Below w1.heap.size w1 wx) (fun _ i _=>64 - (intOf i).toNat)
 case atStart=>exact ⟨0,by omega,rfl,rfl,Below.refl _ _⟩
 case round=>
  obtain ⟨k,hk,rfl,rfl,hb⟩:=hrel;have HB:Hid (Below w.heap.size w wr):=hB1.trans (hb.mono hB1.size);have HBW:Hid (Below w1.heap.size w1 wr):=hb;clear hb;by_cases hk8:k<64
  ·have k8:(k:Int)<64:=by omega
   have ht:=isTaken_any (f k);have hi:=idx25 f k hk8;rw [hc] at hi;have hBE:=alloc_en wr (f k);have hp:=put_any (tkw f k) (tkw_lt f k (by omega)) (k:Int);rw [putR_sl hk8] at hp;have hst:tkw f (k+1)=if tkn (f k) then put (tkw f k) k else tkw f k:=rfl
   have HST:Hid (tkw f (k+1)=if tkn (f k) then put (tkw f k) k else tkw f k):=hst;generalize tkw f k=q at *;clear hst;generalize put q k=pq at *;generalize f k=e at *;clear hc;go_wp2_with fail
   refine (ht _).mono ?_;rintro r w2 ⟨rfl,hb2⟩;have HB2:Hid (Below wr.heap.size wr w2):=hBE.trans (hb2.mono hBE.size);clear hBE hb2 ht hi
   cases hkt:tkn e with
   | false=>
    go_wp2_with fail
    go_roundw
    case rel=>exact ⟨k+1,by omega,by go_num,by rw [HST.out,hkt];rfl,HBW.out.trans (HB2.out.mono HBW.out.size)⟩
    case measure=>simp [intOf];omega
   | true=>
    go_wp2_with (go_at_call 251;refine (hp _).mono ?_;rintro r w3 ⟨rfl,rfl⟩)
    go_roundw
    case rel=>exact ⟨k+1,by omega,by go_num,by rw [HST.out,hkt];rfl,HBW.out.trans (HB2.out.mono HBW.out.size)⟩
    case measure=>simp [intOf];omega
  ·obtain rfl:k=64:=by omega
   go_wp2_with fail
   go_ret;exact ⟨rfl,HB.out⟩
/- The document's Taken. -/
def tks (f:Nat→En) (k:Nat):Array Value:=plf fun i=>decide (i<k)&&tkn (f i)
@[simp] theorem tks_size (f:Nat→En) (k:Nat):(tks f k).size=64:=by simp [tks]
theorem cell_alloc_lt {w:World} {a:Addr} {v:Value} (h:w.cell? a=some v) (o:Obj):(w.alloc o).cell? a=some v:=cell_later ((Below.refl _ w).alloc (Nat.le_refl _) o) h
open Go.RowKit Go.Great
def eqE (a b:En):Bool:=decide (a.who=b.who)&&decide (a.bas=b.bas)&&decide (a.snc=b.snc)
theorem eqE_iff {a b:En}:eqE a b=true↔a=b:=by
 simp only [eqE,Bool.and_eq_true,decide_eq_true_eq];exact ⟨fun h=>En.ext' h.1.1 h.1.2 h.2,fun h=>by subst h;simp⟩
theorem run_eqEn (d:Nat) (a b:En) (w:World):(Op.equalIn (d+2) 50 (.agg #[.int .i64 a.who,.int .i64 a.bas,.int .i64 a.snc]) (.agg #[.int .i64 b.who,.int .i64 b.bas,.int .i64 b.snc])).run Tryz.prog w=.ok (eqE a b) w:=by
 have e1:∀x y:Int,(x==y)=decide (x=y):=fun x y=>by rw [Bool.eq_iff_iff];simp
 rw [run_equalIn_agg w (d+1) 50 _ _ (by kernel_rfl) (by kernel_rfl)];by_cases h1:a.who=b.who <;> by_cases h2:a.bas=b.bas <;> by_cases h3:a.snc=b.snc <;> simp [eqE,go_sem,part,h1,h2,h3]
def eqB (f g:Nat→En):Bool:=(List.range 64).all fun i=>eqE (f i) (g i)
theorem eqB_iff {f g:Nat→En}:eqB f g=true↔∀i,i<64→f i=g i:=by
 unfold eqB;rw [List.all_eq_true];exact ⟨fun h i hi=>eqE_iff.1 (h i (List.mem_range.2 hi)),fun h i hi=>eqE_iff.2 (h i (List.mem_range.1 hi))⟩
theorem eqB_refl (f:Nat→En):eqB f f=true:=eqB_iff.2 fun _ _=>rfl
theorem part25 (f:Nat→En) (i:Nat) (hi:i<64) (w:World):(part 50 (rcs f) (i * 3)).run Tryz.prog w=.ok (.agg #[.int .i64 (f i).who,.int .i64 (f i).bas,.int .i64 (f i).snc]) w:=by
 have e:=ext25 f i hi;simp [part,go_sem,e]
theorem eqItems25 (f g:Nat→En) (d:Nat) (w:World):∀l:List Nat,(∀i∈l,i<64)→(Op.eqItems (d+2) 50 3 (rcs f) (rcs g) l).run Tryz.prog w=.ok (l.all fun i=>eqE (f i) (g i)) w
 | [],_=>by simp [Op.eqItems]
 | i::l,h=>by
  have hi:=h i (by simp);have ih:=eqItems25 f g d w l fun j hj=>h j (by simp [hj])
  cases he:eqE (f i) (g i) with
  | false=>simp [Op.eqItems,Sem.run_bind,Sem.run_ite,part25 _ i hi,Result.andThen_ok,run_eqEn d,he]
  | true=>simp [Op.eqItems,Sem.run_bind,Sem.run_ite,part25 _ i hi,Result.andThen_ok,run_eqEn d,he,ih]
theorem info_en:(Tryz.prog.info? 50).isSome=true:=by kernel_rfl
theorem cells_en:Tryz.prog.cellsOf 50=3:=by kernel_rfl
theorem check_any (f:Nat→En) (w:World):Calls Tryz.prog 170 #[.agg (rcs f)] w fun r w'=>r=.returned (.int .i64 (chkE f))∧Below w.heap.size w w':=by
 have hn:=RoAt.new w f;have hB1:=alloc_ro w f;go_enter Tryz.func170,Tryz.ntmps170;go_upto_region 1 with (fail)
 generalize w.alloc (.cells (rcs f) 52)=w1 at *;refine wp_region_lit ?_;refine ld25 hn rfl _ rfl rfl ?_;obtain ⟨c,hc⟩:∃c,rcs f=c:=⟨_,rfl⟩;rw [hc];go_wp2_with fail
 go_loopw [8] (fun i wx=>∃k:Nat,k≤64∧i=.int .i64 (k:Int)∧Below w1.heap.size w1 wx∧∀j,j<k→okp f j=true) (fun i _=>64 - (intOf i).toNat)
 case atStart=>exact ⟨0,by omega,rfl,Below.refl _ _,fun j hj=>by omega⟩
 case round=>
  obtain ⟨k,hk,rfl,hb,hf⟩:=hrel;have HB:Hid (Below w.heap.size w wr):=hB1.trans (hb.mono hB1.size);have HBW:Hid (Below w1.heap.size w1 wr):=hb;have HF:Hid (∀j,j<k→okp f j=true):=hf;clear hb hf;by_cases hk8:k<64
  ·have k8:(k:Int)<64:=by omega
   have k9:(k:Int)≤64:=by omega
   have ht:=isRight_any (f k);have hi:=idx25 f k hk8;rw [hc] at hi;have hE:=EnAt.new wr (f k);have hBE:=alloc_en wr (f k);obtain ⟨e,he⟩:∃e,f k=e:=⟨_,rfl⟩;rw [he] at ht hi hE hBE;have HE:Hid (f k=e):=he;clear hc he;go_wp2_with fail
   refine (ht _).mono ?_;rintro r w2 ⟨rfl,hb2⟩;have hE2:=hE.later hb2;have HB2:Hid (Below wr.heap.size wr w2):=hBE.trans (hb2.mono hBE.size);have hB12:Below w1.heap.size w1 w2:=HBW.out.trans (HB2.out.mono HBW.out.size);have hR2:=hn.later hB12;have HB3:Hid (Below w.heap.size w w2):=HB.out.trans (HB2.out.mono HB.out.size);obtain ⟨Be,hBe⟩:∃Be,wr.heap.size=Be:=⟨_,rfl⟩;rw [hBe] at hE2 ⊢;clear hE hBE hb2 ht hi HB HB2 HBW hBe
   cases hkt:rgp e with
   | false=>
    go_wp2_with fail
    go_ret;exact ⟨ret_int (by rw [chkE_bad hk8 (by unfold okp;rw [HE.out,hkt];rfl)]),HB3.out⟩
   | true=>
    go_wp2_with fail
    go_loopw [18] (fun i wx=>∃j:Nat,j≤k∧i=.int .i64 (j:Int)∧Below w2.heap.size w2 wx∧∀m,m<j→clh (f m) e=false) (fun i _=>k - (intOf i).toNat)
    case atStart=>exact ⟨0,by omega,rfl,Below.refl _ _,fun j hj=>by omega⟩
    case round=>
     obtain ⟨j,hj,rfl,hb,hf⟩:=hrel;have HBX:Hid (Below w2.heap.size w2 wr):=hb;have HG:Hid (∀m,m<j→clh (f m) e=false):=hf;have hR:=hR2.later hb;have hE3:=hE2.later hb;clear hf hb;by_cases hjk:j<k
     ·have j1:(j:Int)<(k:Int):=by omega
      have j2:(0:Int)≤(j:Int):=by omega
      obtain ⟨c0,c1,c2⟩:=hR.cells j (by omega);obtain ⟨d0,d1,d2⟩:=hE3.cells;have e0:=fun o=>cell_alloc_lt d0 o
      have e1:=fun o=>cell_alloc_lt d1 o
      have e2:=fun o=>cell_alloc_lt d2 o
      have hcl:=clashes_any (f j) e;have hBE:=alloc_en wr (f j);have HJ:Hid (clh (f j) e=clh (f j) e):=rfl;clear d0 d1 d2 hR hE3;obtain ⟨d,hd⟩:∃d,f j=d:=⟨_,rfl⟩;rw [hd] at c0 c1 c2 hcl hBE;have HD:Hid (f j=d):=hd;clear hd;go_wp2_with fail
      refine (hcl _).mono ?_;rintro r w3 ⟨rfl,hb3⟩;have HB4:Hid (Below wr.heap.size wr w3):=hBE.trans (hb3.mono hBE.size);clear hcl hBE hb3 c0 c1 c2 e0 e1 e2
      cases hcc:clh d e with
      | false=>
       go_wp2_with fail
       go_roundw
       case rel=>
        refine ⟨j+1,by omega,by go_num,HBX.out.trans (HB4.out.mono HBX.out.size),fun m hm=>?_⟩;rcases Nat.lt_or_ge m j with h | h
        ·exact HG.out m h
        ·obtain rfl:m=j:=by omega
         rw [HD.out];exact hcc
       case measure=>simp [intOf];omega
      | true=>
       go_wp2_with fail
       go_ret;have hbb:=HB3.out.trans (HBX.out.mono HB3.out.size);exact ⟨ret_int (by rw [chkE_bad hk8 (by unfold okp;rw [HE.out,range_bad hjk (by rw [HD.out];exact hcc)];simp)]),hbb.trans (HB4.out.mono hbb.size)⟩
     ·obtain rfl:j=k:=by omega
      have j1:¬((j:Int)<(j:Int)):=by omega
      go_wp2_with fail
      go_roundw
      case rel=>
       refine ⟨j+1,by omega,by go_num,hB12.trans (HBX.out.mono hB12.size),fun m hm=>?_⟩;rcases Nat.lt_or_ge m j with h | h
       ·exact HF.out m h
       ·obtain rfl:m=j:=by omega
        unfold okp;rw [HE.out,hkt,range_good HG.out];rfl
      case measure=>simp [intOf];omega
  ·obtain rfl:k=64:=by omega
   go_wp2_with fail
   go_ret;exact ⟨ret_int (by rw [chkE_good HF.out]),HB.out⟩
theorem fd_range (f:Nat→En) (x:Int):∀(n k:Nat),fd f x k n=-1∨∃j:Nat,fd f x k n=(j:Int)∧k≤j∧j<k+n∧at' f x j=true∧∀i,k≤i→i<j→at' f x i=false
 | 0,k=>.inl rfl
 | n+1,k=>by
  unfold fd
  cases h:at' f x k with
  | true=>exact .inr ⟨k,rfl,Nat.le_refl _,by omega,h,fun i h1 h2=>by omega⟩
  | false=>
   rcases fd_range f x n (k+1) with e | ⟨j,e,h1,h2,h3,h4⟩
   ·exact .inl (by simpa using e)
   ·refine .inr ⟨j,by simpa using e,by omega,by omega,h3,fun i g1 g2=>?_⟩;rcases Nat.lt_or_ge k i with g | g
    ·exact h4 i g g2
    ·obtain rfl:i=k:=by omega
     exact h
theorem fnd_range (f:Nat→En) (x:Int):fnd f x=-1∨∃j:Nat,fnd f x=(j:Int)∧j<64∧at' f x j=true∧∀i,i<j→at' f x i=false:=by
 rcases fd_range f x 64 0 with e | ⟨j,e,h1,h2,h3,h4⟩
 ·exact .inl e
 ·exact .inr ⟨j,e,by omega,h3,fun i hi=>h4 i (by omega) hi⟩
theorem fd_none {f:Nat→En} {x:Int}:∀(n k:Nat),fd f x k n=-1↔∀i,k≤i→i<k+n→at' f x i=false
 | 0,k=>⟨fun _ i h1 h2=>by omega,fun _=>rfl⟩
 | n+1,k=>by
  unfold fd
  cases h:at' f x k with
  | true=>
   refine ⟨fun e=>?_,fun e=>?_⟩
   ·simp at e
   ·rw [e k (Nat.le_refl _) (by omega)] at h;cases h
  | false=>
   simp only [Bool.false_eq_true,if_false];rw [fd_none n (k+1)];refine ⟨fun e i h1 h2=>?_,fun e i h1 h2=>e i (by omega) (by omega)⟩;rcases Nat.lt_or_ge k i with g | g
   ·exact e i g (by omega)
   ·obtain rfl:i=k:=by omega
    exact h
theorem fnd_none {f:Nat→En} {x:Int}:fnd f x=-1↔∀i,i<64→at' f x i=false:=by
 unfold fnd;rw [fd_none 64 0];exact ⟨fun h i hi=>h i (by omega) (by omega),fun h i _ hi=>h i (by omega)⟩
/- Is the person on? -/
def on (f:Nat→En) (x:Int):Bool:=decide (0≤fnd f x)
theorem on_ne (f:Nat→En) (x:Int):on f x= !decide (fnd f x=-1):=by
 unfold on;rcases fnd_range f x with e | ⟨j,e,_⟩
 ·rw [e];rfl
 ·rw [e];have h1:(0:Int)≤(j:Int):=by omega
  have h2:¬((j:Int)=-1):=by omega
  simp [h1,h2]
/- The error of a person of a batch, behind those that stand ahead of it. -/
def er (f:Nat→En) (lv:Bool) (pre:List Int) (x:Int):Int:=
 if wok x then (if decide (x∈pre) then 15 else if lv then (if on f x then 0 else 16) else (if on f x then 17 else 0)) else 14
def fr' (f:Nat→En) (lv:Bool):List Int→List Int→Int
 | _,[]=>0
 | pre,x::r=>if er f lv pre x=0 then fr' f lv (pre++[x]) r else er f lv pre x
theorem fr_step (f:Nat→En) (lv:Bool) (p L:List Int) {k:Nat} (h:k<L.length):
  fr' f lv (p++L.take k) (L.drop k)=if er f lv (p++L.take k) (L.getD k 0)=0 then fr' f lv (p++L.take (k+1)) (L.drop (k+1)) else er f lv (p++L.take k) (L.getD k 0):=by
 have e1:L.getD k 0=L[k]:=by simp [List.getD,h]
 rw [List.drop_eq_getElem_cons h,fr',e1,List.take_succ_eq_append_getElem h,List.append_assoc]
theorem fr_end (f:Nat→En) (lv:Bool) (p L:List Int):fr' f lv (p++L.take L.length) (L.drop L.length)=0:=by simp [fr']
/- Does the batch fit? -/
def cnt (f:Nat→En):Nat:=(bl (tk f)).length
theorem cnt_le (f:Nat→En):cnt f≤64:=bl_len _
theorem cnt_nt (f:Nat→En):(bl (nt (tk f))).length=64 - cnt f:=by have:=bl_both (tk_lt f);unfold cnt;omega
def ft (f:Nat→En) (L J:List Int):Int:=
 if chk f then
  if fr' f true [] L=0 then
   if fr' f false L J=0 then
    if J.length>64 - cnt f+L.length then 18 else 0
   else fr' f false L J
  else fr' f true [] L
 else 31
theorem ft_tree {f:Nat→En} (L J:List Int) (h:chk f=false):ft f L J=31:=by unfold ft;rw [h];rfl
theorem ft_left {f:Nat→En} {L:List Int} (J:List Int) (h:chk f=true) (h1:fr' f true [] L≠0):ft f L J=fr' f true [] L:=by unfold ft;rw [h,if_pos rfl,if_neg h1]
theorem ft_join {f:Nat→En} {L J:List Int} (h:chk f=true) (h1:fr' f true [] L=0) (h2:fr' f false L J≠0):ft f L J=fr' f false L J:=by unfold ft;rw [h,if_pos rfl,if_pos h1,if_neg h2]
theorem ft_full {f:Nat→En} {L J:List Int} (h:chk f=true) (h1:fr' f true [] L=0) (h2:fr' f false L J=0):ft f L J=if J.length>64 - cnt f+L.length then 18 else 0:=by unfold ft;rw [h,if_pos rfl,if_pos h1,if_pos h2]
theorem chkE_tt {f:Nat→En} (h:chk f=true):chkE f=0:=by unfold chkE;rw [h];rfl
theorem chkE_ff {f:Nat→En} (h:chk f=false):chkE f=31:=by unfold chkE;rw [h];rfl
/- The marks of those who have been seen. -/
def sns (l:List Int):Array Value:=Array.ofFn (n:=256) fun i=>.bool (decide ((i.1:Int)∈l))
@[simp] theorem sns_size (l:List Int):(sns l).size=256:=by simp [sns]
theorem sns_get (l:List Int) (i:Nat) (h:i<256):(sns l)[i]? =some (.bool (decide ((i:Int)∈l))):=by
 rw [Array.getElem?_eq_getElem (by simpa using h)];simp [sns]
theorem sns_set (l:List Int) (k:Nat) (hk:k<256):(sns l).setIfInBounds k (.bool true)=sns (l++[(k:Int)]):=by
 apply Array.ext
 ·simp
 ·intro i h1 h2;simp at h1;rw [Array.getElem_setIfInBounds (by simpa using h1)];simp only [sns,Array.getElem_ofFn];by_cases h:k=i
  ·subst h;simp
  ·rw [if_neg h]
   congr 2
   simp only [List.mem_append,List.mem_singleton,eq_iff_iff];constructor
   ·exact fun h=>.inl h
   ·rintro (h1 | h1)
    ·exact h1
    ·exact absurd h1 (by omega)
theorem wok_nat {x:Int} (h:wok x=true):∃k:Nat,x=(k:Int)∧k<256:=by
 simp only [wok,Bool.and_eq_true,decide_eq_true_eq] at h;exact ⟨x.toNat,by omega,by omega⟩
end Go.Proofs.YtoimkngkcliinaaGreatDoor.Rs
