/- BitDone, BitSpec, BitPut, BitPack, joined. -/
import Derived.Test.YtanaapfobpgibaaGreatDoorJBitMath
import Derived.BigQuiet
open Go.Proofs.Tryz
set_option maxHeartbeats 2000000
namespace Go.Proofs.YtanaapfobpgibaaGreatDoor.Bt
open Go.RowKit Go.Maps
set_option linter.unusedVariables false
set_option maxRecDepth 4000
attribute [local go_sem ↓] Go.wp_at_zero Go.wp_at_succ
/- A text of these bytes. -/
def tx (l:List Nat):ByteArray:=⟨(l.map UInt8.ofNat).toArray⟩
theorem nW (l:List Nat):(tx l).size=l.length:=by simp [tx,ByteArray.size]
theorem Bd (l:List Nat) (h:∀x∈l,x<256):bA (tx l)=l:=by
 simp only [bA,tx,List.map_map]
 conv=>rhs;rw [←List.map_id l]
 apply List.map_congr_left
 intro x hx;have:=h x hx;simp [UInt8.toNat_ofNat'];omega
theorem ET (s:ByteArray):tx (bA s)=s:=by
 cases s with
 | mk d=>simp [bA,tx,List.map_map,Function.comp_def]
theorem kZ (B g:Nat) (l:List Bool) (x:Value) (w:World) (h:Wr B w g l x):Calls prog 119 #[.pointer (some ⟨g,0,none⟩)] w fun e w'=>e=.returned (.string (tx (pk l)))∧w'=w:=by
 have h1:=h.c1;rcases h.row.2 with ⟨h0,hn⟩ | ⟨r,cap,cur,hv,_⟩
 ·subst h0;have hp:pk l=[]:=List.length_eq_zero_iff.1 hn;rw [hp]
  have hc:(convert 151 9 (.slice none 0 0)).run prog w=.ok (.string (tx [])) w:=by
   rw [run_convert_bytes_string w 151 9 5 none 0 0 underlying151 underlying5 underlying9];rfl
  go_enter func119,ntmps119;go_wp2
  go_ret;exact ⟨rfl,rfl⟩
 ·subst hv;have hr:=h.row
  have hc:=run_convert_bytes_back (P:=prog) w 151 9 5 ⟨r,0,none⟩ cap ((pk l).map UInt8.ofNat) underlying151 underlying5 underlying9 (fun j hj=>by
   simp at hj;have e:((⟨r,0,none⟩:Addr).add j)=⟨r,j,none⟩:=by unfold Addr.add;split <;> simp_all
   rw [e,hr.cellAt j (by omega)];have hlt:=yQ l (pk l)[j] (List.getElem_mem hj)
   simp [rG,hj,UInt8.toNat_ofNat'];omega)
  rw [List.length_map] at hc;have HC:Hid _:=hc;clear hc;generalize hm:(pk l).length=m at h1 HC;have hc:=HC.out;clear HC hm hr;go_enter func119,ntmps119;go_wp2
  go_ret;exact ⟨rfl,rfl⟩
theorem xa (g c:Nat) (s:ByteArray) (w:World) (h:Rr w g c s) (hs:s.size<1125899906842624):
  Calls prog 185 #[.pointer (some ⟨g,0,none⟩)] w fun e w'=>e=.returned (.bool (dn (tb (bA s)) c))∧Below w.heap.size w w':=by
 have hl:=wu g c s w h hs;have hle:=h.le;have hlen:(tb (bA s)).length=8 * s.size:=by rw [bT,a8]
 obtain ⟨m,hm⟩:∃m,8 * s.size - c=m:=⟨_,rfl⟩;rw [hm] at hl;by_cases h0:m=0
 ·have hd:dn (tb (bA s)) c=true:=by
   have:(tb (bA s)).drop c=[]:=List.drop_eq_nil_of_le (by omega);simp only [dn,this,hlen];simp [bv];omega
  rw [hd];subst h0;clear hm hle hlen hd;go_enter func185,ntmps185;go_wp2_with fail
  refine hl.mono ?_;rintro e w2 ⟨rfl,rfl⟩;go_wp2
  go_ret;exact ⟨rfl,(Below.refl _ _).drew⟩
 ·by_cases h8:m<8
  ·obtain ⟨p,hp⟩:∃p,c/8=p:=⟨_,rfl⟩;have tD:p<s.size:=by omega
   obtain ⟨y,hy⟩:∃y,(s[p]'tD).toNat=y:=⟨_,rfl⟩;have aa0:y<256:=by rw [←hy];exact UInt8.toNat_lt _
   have hwy:IntKind.u64.wrap ((s[p]'tD).toNat:Int)=(y:Int):=by rw [hy,IntKind.wrap_u64];omega
   obtain ⟨t,ht⟩:∃t,y%2^m=t:=⟨_,rfl⟩;have hand:bits .and .u64 (y:Int) ((2^m - 1:Nat):Int)=(t:Int):=by rw [←ht];exact RA y m (by omega) (by omega)
   have hd:dn (tb (bA s)) c=decide ((t:Int)=0):=by
    have e:bv ((tb (bA s)).drop c)=t:=by
     have h1:(tb (bA s)).drop c=((tb (bA s)).drop c).take m:=(List.take_of_length_le (by simp [a8];omega)).symm;rw [h1,Hp (bA s) c m (by omega) (by rw [a8];omega)];subst hp;rw [Jz s (c/8) tD,hy,show 8 - c%8 - m=0 by omega,Nat.pow_zero,Nat.div_one,ht]
    unfold dn;rw [e,hlen,hm];simp [h8]
   rw [hd];have jC:=fun w0 h=>r9 g c w0 (by omega) h
   rw [hp] at jC;have wM:=fun w0=>pG m (by omega) w0
   have hc0:w.drew.cell? ⟨g,0,none⟩=some (.int .i64 (c:Int)):=h.c0;have hc1:w.drew.cell? ⟨g,1,none⟩=some (.string s):=h.c1;have p1:(0:Int)≤(p:Int):=by omega
   have p2:(p:Int)<(s.size:Int):=by omega
   have m1:decide ((m:Int)=0)=false:=by simp;omega
   have m2:((m:Int)==0)=false:=by simp;omega
   have m3:(m:Int)<8:=by omega
   clear hm hle hlen hd hp hy ht;go_enter func185,ntmps185;go_wp2_with fail
   refine hl.mono ?_;rintro e w2 ⟨rfl,rfl⟩;go_wp2_with fail
   go_region_held3 (fun w'=>w'.cell? ⟨g,0,none⟩=some (.int .i64 (c:Int))∧w'.cell? ⟨g,1,none⟩=some (.string s)) (go_keep) (first | (go_at_call 215;refine (jC _ ?_).mono ?_;(simp [*]);rintro e w' ⟨rfl,rfl⟩) | (go_at_call 217;refine (wM _).mono ?_;rintro e w' ⟨rfl,rfl⟩))
   all_goals go_wp2_with fail
   all_goals go_ret
   all_goals exact ⟨ae (by first | rfl | simp),(Below.refl _ _).drew.drew⟩
  ·have hd:dn (tb (bA s)) c=false:=by
    unfold dn;rw [hlen,hm];simp [h8]
   rw [hd];have m1:decide ((m:Int)=0)=false:=by simp;omega
   have m2:((m:Int)==0)=false:=by simp;omega
   have m3:decide ((m:Int)<8)=false:=by simp;omega
   clear hm hle hlen hd;go_enter func185,ntmps185;go_wp2_with fail
   refine hl.mono ?_;rintro e w2 ⟨rfl,rfl⟩;go_wp2_with fail
   go_quiet (fail)
   go_wp2_with fail
   go_ret;exact ⟨rfl,⟨rfl,rfl,rfl,Nat.le_refl _,fun _ _=>rfl⟩⟩
variable {α:Type} {T:List Bool} {c:Nat} {w w0:World} {a:Option Addr}
def okF (f:Nat×Int):Bool:=gw f.2&&decide (f.1<2^f.2.toNat)
def aA (fs:List (Nat×Int)):List Bool:=fs.flatMap fun f=>bo f.1 f.2.toNat
theorem aM (a b:List (Nat×Int)):aA (a++b)=aA a++aA b:=by simp [aA]
theorem jk {f:Nat×Int} (h:okF f=true):1≤f.2∧f.2≤64∧f.1<2^f.2.toNat:=by simp [okF,gw] at h;omega
theorem D3 (fs:List (Nat×Int)) (h:∀f∈fs,okF f=true):(aA fs).length≤64 * fs.length:=by
 induction fs with
 | nil=>simp [aA]
 | cons f fs ih=>
  have h1:=ih (fun g hg=>h g (by simp [hg]));have h2:=jk (h f (by simp));have e:aA (f::fs)=bo f.1 f.2.toNat++aA fs:=rfl;rw [e,List.length_append,a_,List.length_cons];omega
def ua (fs:List (Nat×Int)):ByteArray:=if fs.all okF then tx (pk (aA fs)) else tx []
def ub (fs:List (Nat×Int)):Int:=if fs.all okF then 0 else 6
theorem eC (l:List α) (k:Nat) (d:α) (hk:k<l.length):l.take (k+1)=l.take k++[l.getD k d]:=by
 rw [List.take_add_one];simp [List.getElem?_eq_getElem hk]
theorem Eb (p:α→Bool) (l:List α) (k:Nat) (d:α) (hk:k<l.length) (h:p (l.getD k d)=false):l.all p=false:=by
 rw [Bool.eq_false_iff];intro ha;rw [List.all_eq_true] at ha;have:=ha (l.getD k d) (by simp [hk]);rw [h] at this;cases this
/- Taking bits by widths. -/
def oY (T:List Bool) (st:Option (Nat×List Nat)) (w:Int):Option (Nat×List Nat):=
 match st with
 | none=>none
 | some (c,vs)=>if 1≤w∧w≤64∧w≤((T.length - c:Nat):Int) then some (c+w.toNat,vs++[bv ((T.drop c).take w.toNat)]) else none
def tk (T:List Bool) (ws:List Int):Option (Nat×List Nat):=ws.foldl (oY T) (some (0,[]))
theorem Cb (T:List Bool) (ws:List Int):ws.foldl (oY T) none=none:=by
 induction ws with
 | nil=>rfl
 | cons w ws ih=>simpa [oY] using ih
theorem S5 (T:List Bool) (ws:List Int) (w:Int):tk T (ws++[w])=oY T (tk T ws) w:=by simp [tk]
theorem S4 (T:List Bool) (ws:List Int) (k:Nat) (hk:k<ws.length):tk T (ws.take (k+1))=oY T (tk T (ws.take k)) (ws.getD k 0):=by
 rw [eC ws k 0 hk,S5]
theorem S6 (T:List Bool) (ws:List Int) (k:Nat) (h:tk T (ws.take k)=none):tk T ws=none:=by
 have e:ws=ws.take k++ws.drop k:=by simp
 unfold tk at *;rw [e,List.foldl_append,h,Cb]
theorem VM (T:List Bool):∀(ws:List Int) (c0:Nat) (v0:List Nat) (c:Nat) (vs:List Nat),c0≤T.length→ws.foldl (oY T) (some (c0,v0))=some (c,vs)→c≤T.length∧vs.length=v0.length+ws.length
 | [],c0,v0,c,vs,h0,h=>by simp at h;obtain ⟨rfl,rfl⟩:=h;simp;omega
 | w::ws,c0,v0,c,vs,h0,h=>by
  simp only [List.foldl_cons,oY] at h;split at h
  ·rename_i hw
   have:=VM T ws _ _ c vs (by omega) h;simp at this ⊢;omega
  ·rw [Cb] at h;cases h
def un (T:List Bool) (ws:List Int):Option (List Nat):=
 match tk T ws with
 | none=>none
 | some (c,vs)=>if dn T c then some vs else none
def Hk (T:List Bool) (ws:List Int):List Nat:=(un T ws).getD []
def ML (T:List Bool) (ws:List Int):Int:=if (un T ws).isSome then 0 else 6
theorem Xu {ws:List Int} (h:tk T ws=none):Hk T ws=[]∧ML T ws=6:=by simp [Hk,ML,un,h]
theorem Hj {ws:List Int} {vs:List Nat} (h:tk T ws=some (c,vs)) (hd:dn T c=false):Hk T ws=[]∧ML T ws=6:=by simp [Hk,ML,un,h,hd]
theorem zN {ws:List Int} {vs:List Nat} (h:tk T ws=some (c,vs)) (hd:dn T c=true):Hk T ws=vs∧ML T ws=0:=by simp [Hk,ML,un,h,hd]
/- Fields in memory. -/
def JR (w:World) (a:Option Addr) (fs:List (Nat×Int)):Prop:=
 ∀i,i<fs.length→∃b o,a=some ⟨b,o,none⟩∧w.cell? ⟨b,o+i * 2,none⟩=some (.int .u64 ((fs.getD i (0,0)).1:Int))∧w.cell? ⟨b,o+i * 2+1,none⟩=some (.int .i64 (fs.getD i (0,0)).2)∧(fs.getD i (0,0)).1<18446744073709551616
theorem JR.spot {fs:List (Nat×Int)} (h:JR w a fs) (h0:fs≠[]):∃b o,a=some ⟨b,o,none⟩∧∀i,i<fs.length→w.cell? ⟨b,o+i * 2,none⟩=some (.int .u64 ((fs.getD i (0,0)).1:Int))∧w.cell? ⟨b,o+i * 2+1,none⟩=some (.int .i64 (fs.getD i (0,0)).2)∧(fs.getD i (0,0)).1<18446744073709551616:=by
 have hp:0<fs.length:=List.length_pos_iff.2 h0;obtain ⟨b,o,e,_⟩:=h 0 hp;refine ⟨b,o,e,fun i hi=>?_⟩;obtain ⟨b',o',e',c0,c1⟩:=h i hi;rw [e] at e';simp at e';obtain ⟨rfl,rfl⟩:=e';exact ⟨c0,c1⟩
/- Integers in memory. -/
def bM (w:World) (a:Option Addr) (ws:List Int):Prop:=
 ∀i,i<ws.length→∃b o,a=some ⟨b,o,none⟩∧w.cell? ⟨b,o+i,none⟩=some (.int .i64 (ws.getD i 0))
theorem bM.spot {ws:List Int} (h:bM w a ws) (h0:ws≠[]):∃b o,a=some ⟨b,o,none⟩∧∀i,i<ws.length→w.cell? ⟨b,o+i,none⟩=some (.int .i64 (ws.getD i 0)):=by
 have hp:0<ws.length:=List.length_pos_iff.2 h0;obtain ⟨b,o,e,_⟩:=h 0 hp;refine ⟨b,o,e,fun i hi=>?_⟩;obtain ⟨b',o',e',c0⟩:=h i hi;rw [e] at e';simp at e';obtain ⟨rfl,rfl⟩:=e';exact c0
def oW (l:List Nat):List Value:=l.map fun n:Nat=>Value.int .u64 (n:Int)
@[simp] theorem VJ (l:List Nat):(oW l).length=l.length:=by simp [oW]
theorem J3 (l:List Nat) (x:Nat):oW (l++[x])=oW l++[.int .u64 (x:Int)]:=by simp [oW]
theorem YA:(prog.info? 108).map (fun i=>(i.zero,i.size,i.bytes))=some (some (.int .u64 0),1,8):=by kernel_rfl
theorem Wr.below {B:Nat} {w w':World} {g:Nat} {l:List Bool} {x:Value} (h:Wr B w g l x) (hk:Kept (Fw g x) w w') {B0:Nat} (h0:B0≤g):Below B0 w w':=by
 have hg:=(Array.getElem?_eq_some_iff.1 h.blk).1;refine hk.below (by omega) (fun k hk=>?_);rcases hk with rfl | hk
 ·exact h0
 ·have:=(h.row.lt k hk).1;have:=h.lt;omega
theorem aX (w:World) (o:Obj):Below w.heap.size w (w.alloc o):=(Below.refl _ _).alloc (Nat.le_refl _) _
theorem Below.more (h:Below w0.heap.size w0 w) (o:Obj):Below w0.heap.size w0 (w.alloc o):=h.alloc h.size _
theorem Below.then {w':World} (h:Below w0.heap.size w0 w) (hb:Below w.heap.size w w'):Below w0.heap.size w0 w':=h.trans (hb.mono h.size)
attribute [local go_sem ↓] Go.wp_at_zero Go.wp_at_succ
set_option maxRecDepth 100000 in
theorem X5 (g v:Nat) (n:Int) (w:World) (hv:v<18446744073709551616) (h:(gw n&&decide (v<2^n.toNat))=false):Calls prog 160 #[.pointer (some ⟨g,0,none⟩),.int .u64 (v:Int),.int .i64 n] w fun e w'=>e=.returned (.int .i64 6)∧w'=w:=by
 go_enter func160,ntmps160;go_wp2_with fail
 refine (eG v n _ hv).mono ?_;rintro e w' ⟨rfl,rfl⟩;rw [h];go_wp2
 go_ret;exact ⟨rfl,rfl⟩
set_option maxRecDepth 100000 in
theorem H8 (B g v n:Nat) (l:List Bool) (x:Value) (w:World) (h1:1≤n) (h2:n≤64) (hv:v<2^n) (hB:B≤w.heap.size) (hw:Wr B w g l x) (hl:l.length+n≤1099511627776):
  Calls prog 160 #[.pointer (some ⟨g,0,none⟩),.int .u64 (v:Int),.int .i64 (n:Int)] w fun e w'=>e=.returned (.int .i64 0)∧∃x',Wr B w' g (l++bo v n) x'∧Kept (Fw g x) w w'∧(x'.ownBlock=x.ownBlock∨∀k,x'.ownBlock=some k→w.heap.size≤k):=by
 obtain ⟨i0,hi,hz0,hz1,hz2⟩:=info_parts Pj;have AJ:v<18446744073709551616:=Nat.lt_of_lt_of_le hv (by have:=Nat.pow_le_pow_right (n:=2) (by decide) h2;simpa using this);have hr:(gw (n:Int)&&decide (v<2^(n:Int).toNat))=true:=by simp [gw,hv];omega
 go_enter func160,ntmps160;go_wp2_with fail
 refine (eG v n _ AJ).mono ?_;rintro e w' ⟨rfl,rfl⟩;rw [hr];clear hr;go_wp2_with fail
 go_loopw [2] (fun i wr=>∃k:Nat,k≤n∧i=.int .i64 (k:Int)∧∃x',Wr B wr g (l++bo (v/2^k) (n - k)) x'∧Kept (Fw g x) w' wr∧(x'.ownBlock=x.ownBlock∨∀k,x'.ownBlock=some k→w'.heap.size≤k)) (fun i _=>(intOf i).toNat)
 case atStart=>exact ⟨n,Nat.le_refl _,rfl,x,by simpa [bo] using hw,Kept.refl _ _,.inl rfl⟩
 case round=>
  obtain ⟨k,hk,rfl,x1,zg,EB,hown⟩:=hrel;have BU:Hid (Kept (Fw g x) w' wr):=EB;have G':Hid (x1.ownBlock=x.ownBlock∨∀k,x1.ownBlock=some k→w'.heap.size≤k):=hown;clear EB hown;by_cases IP:k=0
  ·subst IP;have hz:decide (((0:Nat):Int)>0)=false:=rfl;go_wp2
   go_ret;exact ⟨rfl,x1,by simpa using zg,BU.out,G'.out⟩
  ·obtain ⟨L,hL⟩:∃L,l++bo (v/2^k) (n - k)=L:=⟨_,rfl⟩;have HL:Hid (l++bo (v/2^k) (n - k)=L):=hL;have hLl:L.length=l.length+(n - k):=by rw [←hL];simp
   rw [hL] at zg;clear hL;obtain ⟨a1,jG,rfl⟩:=zg.spell;obtain ⟨c,hc⟩:∃c,L.length=c:=⟨_,rfl⟩;have hc0:=zg.c0;have hc1:=zg.c1;have Bx:Hid (Wr B wr g L (.slice a1 (pk L).length jG)):=zg;clear zg;have hpl:=kO L;obtain ⟨m,hm⟩:∃m,(pk L).length=m:=⟨_,rfl⟩;rw [hm] at hc1 hpl Bx G';rw [hc] at hc0 hpl hLl;obtain ⟨p,hp⟩:∃p,c/8=p:=⟨_,rfl⟩;have jC:=fun w0 h=>r9 g c w0 (by omega) h
   rw [hp] at jC;obtain ⟨rm,Si⟩:∃rm,8 - c%8=rm:=⟨_,rfl⟩;have hroom:=fun w0 h=>Cw g c w0 (by omega) h
   rw [Si] at hroom;have aa4:1≤rm∧rm≤8:=by omega
   obtain ⟨q,hq⟩:∃q,min k rm=q:=⟨_,rfl⟩;have Sk:1≤q∧q≤k∧q≤rm:=by omega
   have wM:=fun w0=>pG q (by omega) w0
   have uh:=fun w0 h f=>ig g c q w0 (by omega) h f
   have ac9:(if (rm:Int)<(k:Int) then (rm:Int) else (k:Int))=(q:Int):=by split <;> omega
   have aa8:(if rm<k then (rm:Int) else (k:Int))=(q:Int):=by split <;> omega
   obtain ⟨j,hj⟩:∃j,k - q=j:=⟨_,rfl⟩;obtain ⟨t,ht⟩:∃t,v/2^j%2^q=t:=⟨_,rfl⟩
   have hand:bits .and .u64 ((v:Int)/2^j) ((2^q - 1:Nat):Int)=(t:Int):=by
    have:=RA (v/2^j) q (Nat.lt_of_le_of_lt (Nat.div_le_self _ _) AJ) (by omega);rw [ht] at this;rw [←this];simp
   obtain ⟨d,hd⟩:∃d,rm - q=d:=⟨_,rfl⟩;have hwd:=oV d (by omega)
   have IH:t * 2^d<2^rm:=by
    have h:=Nat.mod_lt (v/2^j) (Nat.two_pow_pos q);rw [ht] at h;have e:2^rm=2^q * 2^d:=by rw [←Nat.pow_add,show q+d=rm by omega]
    rw [e];exact Nat.mul_lt_mul_of_pos_right h (Nat.two_pow_pos d)
   obtain ⟨z,hz⟩:∃z,t * 2^d=z:=⟨_,rfl⟩;rw [hz] at IH;have Wk:z<256:=Nat.lt_of_lt_of_le IH (by have:=Nat.pow_le_pow_right (n:=2) (by decide) aa4.2;simpa using this);have acZ:=Cn t d z hz (by omega);have hz3:(z:Int)%256=(z:Int):=by omega
   have HZ:Hid (z<2^rm∧t * 2^d=z):=⟨IH,hz⟩;clear IH hz;have aa3:(rm:Int) - (q:Int)=(d:Int):=by omega
   have Lf:(k:Int) - (q:Int)=(j:Int):=by omega
   have HC:Hid (L.length=c∧c=l.length+(n - k)∧(pk L).length=m∧m=(c+7)/8∧c/8=p∧8 - c%8=rm∧min k rm=q∧k - q=j∧v/2^j%2^q=t∧rm - q=d):=⟨hc,hLl,hm,hpl,hp,Si,hq,hj,ht,hd⟩;have lT:j≤63:=by omega
   have acM:(0:Int)<(k:Int):=by omega
   have hpb:p<1099511627776:=by omega
   have HB:Hid (B≤wr.heap.size):=by have:=BU.out.size;unfold Hid;omega
   by_cases Sj:c%8=0
   ·have hpm:p=m:=by omega
    subst hpm;clear hc hLl hm hpl hp Si hq hj ht hd;go_wp2_with fail
    go_region_held3 (fun w'=>w'.cell? ⟨g,0,none⟩=some (.int .i64 (c:Int))∧w'.cell? ⟨g,1,none⟩=some (.slice a1 p jG)) (go_keep) ((go_at_call 215;refine (jC _ ?_).mono ?_;(simp [*]);rintro e w' ⟨rfl,rfl⟩))
    have HRW:Hid (wr.drew.ownsRow B 5 1 (.slice a1 p jG) p (rG (pk L))):=by
     have:=Bx.out.row;rw [HC.out.2.2.1] at this;exact this
    go_wp2_with (at_builtin;refine wpList_append_lies _ rfl _ _ _ rfl B 5 i0 _ 1 1 underlying151 hi hz0 hz1 hz2 rfl (by omega) _ p (rG (pk L)) rfl (HRW.out.alloc _) ⟨wr.heap.size,0,none⟩ 1 1 [.int .u8 0] rfl rfl (fN _ _ _ _ rfl) (by simp [Value.oneCell']) (by omega) (by unfold maxLen;omega) (by omega) (by have:=HB.out;simp;omega) (wr.heap.size+1) (by simp) ?_;intro r aS w2 hown2 hgrow2 Gh PD;obtain ⟨hd1,Ux⟩:=(Bx.out.drew.alloc _).far hgrow2;have iP:Hid ((wr.drew.alloc (.cells #[.int .u8 0] 5)).grownBy w2 (Value.slice a1 p jG).ownBlock):=hgrow2;have SE:Hid (w2.ownsRow B 5 1 (.slice (some ⟨r,0,none⟩) (p+1) aS) (p+1) (rG (pk L)++[.int .u8 0])):=hown2;have Mx:Hid ((Value.slice a1 p jG).ownBlock=some r∨r=wr.heap.size+1):=Gh;clear hown2 hgrow2 Gh PD)
    have HM:Hid (Wm B (w2.setCell ⟨g,1,none⟩ (.slice (some ⟨r,0,none⟩) (p+1) aS)) g L r p aS):=(Bx.out.drew.alloc _).grown (by rw [HC.out.1];exact HC.out.2.2.2.2.1) (by rw [HC.out.1];exact Sj) SE.out iP.out
    have ur:Hid (Kept (Fw g x) w' (w2.setCell ⟨g,1,none⟩ (.slice (some ⟨r,0,none⟩) (p+1) aS))):=by
     refine Kept.setCell ((BU.out.drew.alloc _).grown iP.out ?_) (fun _=>.inl rfl) _;intro j hj hlt;rcases G'.out with e | e
     ·exact .inr (e ▸ hj)
     ·have:=e j hj;omega
    have RP:Hid ((Value.slice (some ⟨r,0,none⟩) (p+1) aS).ownBlock=x.ownBlock∨∀j,(Value.slice (some ⟨r,0,none⟩) (p+1) aS).ownBlock=some j→w'.heap.size≤j):=by
     rcases Mx.out with e | e
     ·rcases G'.out with e' | e'
      ·exact .inl (e.symm.trans e')
      ·exact .inr fun j hj=>by cases hj;exact e' r e
     ·exact .inr fun j hj=>by cases hj;show w'.heap.size≤r;have:=BU.out.size;omega
    obtain ⟨W2,hW2⟩:∃W2,w2.setCell ⟨g,1,none⟩ (.slice (some ⟨r,0,none⟩) (p+1) aS)=W2:=⟨_,rfl⟩;rw [hW2] at HM ur ⊢;clear hW2 iP Mx SE hd1 Ux G' BU Bx HRW hc0 hc1;have YL:=HM.out.c0;have IL:=HM.out.c1;rw [HC.out.1] at YL;refine (hroom W2 YL).mono ?_;rintro e w3 ⟨rfl,rfl⟩;go_wp2_with fail
    go_region_held3 (fun w'=>w'.cell? ⟨g,0,none⟩=some (.int .i64 (c:Int))) (go_keep) ((go_at_call 217;refine (wM _).mono ?_;rintro e w' ⟨rfl,rfl⟩))
    go_wp2_with fail
    have hmp:=HM.out.cp;have hfp:=HM.out.fp;have hgr:g≠r:=by have:=HM.out.ge;have:=HM.out.lt;omega
    have hrg:r≠g:=fun e=>hgr e.symm
    obtain ⟨y,hy⟩:∃y,uo (L.drop (8 * p))=y:=⟨_,rfl⟩;have HY:Hid (uo (L.drop (8 * p))=y):=hy;rw [hy] at hmp
    have Wp:bits .or .u8 (y:Int) (z:Int)=((y+z:Nat):Int):=by
     refine or8 rm y z ?_ HZ.out.1 (by rw [←hy];exact Bf _) Wk;rw [←hy,jr _ (by have:=HC.out;simp;omega)];have:8 - (L.drop (8 * p)).length=rm:=by have:=HC.out;simp;omega
     rw [this];exact Nat.mul_mod_left _ _
    obtain ⟨yz,Uc⟩:∃yz,y+z=yz:=⟨_,rfl⟩;rw [Uc] at Wp;have HYZ:Hid (y+z=yz):=Uc;clear hy Uc;have p1:(0:Int)≤(p:Int):=by omega
    have p2:(p:Int)<(p:Int)+1:=by omega
    have Df:(w3.setCell ⟨r,p,none⟩ (.int .u8 (yz:Int))).drew.drew.cell? ⟨g,0,none⟩=some (.int .i64 (c:Int)):=((Kept.refl (fun k=>k=r) w3).setCell (p:=⟨r,p,none⟩) (fun _=>rfl) _).cell YL hgr;have De:(w3.setCell ⟨r,p,none⟩ (.int .u8 (yz:Int))).drew.drew.frozen? ⟨g,0,none⟩=false:=(World.frozen?_of_block (Below.heap_setCell w3 ⟨r,p,none⟩ _ g hgr)).trans (HM.out.fr 0);have HQ0:Hid _:=Df;have HQ1:Hid _:=De;have BB:Hid _:=HM.out.abD HL.out hk Sk.1 Sk.2.1 Sk.2.2 HC.out.1 HC.out.2.2.2.2.2.1 HC.out.2.2.2.2.2.2.2.1 HC.out.2.2.2.2.2.2.2.2.1 HC.out.2.2.2.2.2.2.2.2.2 HZ.out.2 HY.out HYZ.out
    have Xe:Hid (Kept (Fw g x) w' ((w3.setCell ⟨r,p,none⟩ (.int .u8 (yz:Int))).setCell ⟨g,0,none⟩ (.int .i64 ((c:Int)+(q:Int))))):=by
     refine (ur.out.setCell (fun hlt=>?_) _).setCell (fun _=>.inl rfl) _;rcases RP.out with e | e
     ·exact .inr e.symm
     ·have:=e r rfl;have ada:r<w'.heap.size:=hlt;omega
    clear Df De
    go_region_with (first | (go_at_call 216;refine (hroom _ ?_).mono ?_;(simp [*]);rintro e w' ⟨rfl,rfl⟩) | (go_at_call 215;refine (jC _ ?_).mono ?_;(simp [*]);rintro e w' ⟨rfl,rfl⟩))
    all_goals go_wp2_with fail
    all_goals refine (uh _ HQ0.out HQ1.out).mono ?_
    all_goals rintro e w4 ⟨rfl,rfl⟩
    all_goals go_wp2_with fail
    all_goals go_roundw
    all_goals first
     | (case rel=>exact ⟨j,by have:=HC.out;omega,rfl,_,BB.out.drew.drew,Xe.out.drew.drew,RP.out⟩)
     | (case measure=>simp [intOf];have:=HC.out;omega)
   ·have hpm:m=p+1:=by omega
    subst hpm;have hne:decide ((p:Int)=((p+1:Nat):Int))=false:=by simp;omega
    have Um:((p:Int)==((p+1:Nat):Int))=false:=by simp;omega
    obtain ⟨r,aS,e,hwm⟩:=Bx.out.part (by rw [hc];exact Sj);obtain ⟨e1,-,e2⟩:a1=some ⟨r,0,none⟩∧p+1=L.length/8+1∧jG=aS:=by simpa using e
    have e3:=e2.symm;subst e1 e3;rw [hc,hp] at hwm;have RU:Hid (Wm B wr g L r p aS):=hwm;clear hc hLl hm hpl hp Si hq hj ht hd e hwm e2;go_wp2_with fail
    go_region_held3 (fun w'=>w'.cell? ⟨g,0,none⟩=some (.int .i64 (c:Int))∧w'.cell? ⟨g,1,none⟩=some (.slice (some ⟨r,0,none⟩) (p+1) aS)) (go_keep) ((go_at_call 215;refine (jC _ ?_).mono ?_;(simp [*]);rintro e w' ⟨rfl,rfl⟩))
    go_wp2_with fail
    have HM:Hid (Wm B wr.drew g L r p aS):=RU.out.drew;have ur:Hid (Kept (Fw g x) w' wr.drew):=BU.out.drew;have RP:Hid ((Value.slice (some ⟨r,0,none⟩) (p+1) aS).ownBlock=x.ownBlock∨∀j,(Value.slice (some ⟨r,0,none⟩) (p+1) aS).ownBlock=some j→w'.heap.size≤j):=G'.out;obtain ⟨W2,hW2⟩:∃W2,wr.drew=W2:=⟨_,rfl⟩;rw [hW2] at HM ur ⊢;clear hW2 RU G' BU Bx hc0 hc1;have YL:=HM.out.c0;have IL:=HM.out.c1;rw [HC.out.1] at YL;refine (hroom W2 YL).mono ?_;rintro e w3 ⟨rfl,rfl⟩;go_wp2_with fail
    go_region_held3 (fun w'=>w'.cell? ⟨g,0,none⟩=some (.int .i64 (c:Int))) (go_keep) ((go_at_call 217;refine (wM _).mono ?_;rintro e w' ⟨rfl,rfl⟩))
    go_wp2_with fail
    have hmp:=HM.out.cp;have hfp:=HM.out.fp;have hgr:g≠r:=by have:=HM.out.ge;have:=HM.out.lt;omega
    have hrg:r≠g:=fun e=>hgr e.symm
    obtain ⟨y,hy⟩:∃y,uo (L.drop (8 * p))=y:=⟨_,rfl⟩;have HY:Hid (uo (L.drop (8 * p))=y):=hy;rw [hy] at hmp
    have Wp:bits .or .u8 (y:Int) (z:Int)=((y+z:Nat):Int):=by
     refine or8 rm y z ?_ HZ.out.1 (by rw [←hy];exact Bf _) Wk;rw [←hy,jr _ (by have:=HC.out;simp;omega)];have:8 - (L.drop (8 * p)).length=rm:=by have:=HC.out;simp;omega
     rw [this];exact Nat.mul_mod_left _ _
    obtain ⟨yz,Uc⟩:∃yz,y+z=yz:=⟨_,rfl⟩;rw [Uc] at Wp;have HYZ:Hid (y+z=yz):=Uc;clear hy Uc;have p1:(0:Int)≤(p:Int):=by omega
    have p2:(p:Int)<(p:Int)+1:=by omega
    have Df:(w3.setCell ⟨r,p,none⟩ (.int .u8 (yz:Int))).drew.drew.cell? ⟨g,0,none⟩=some (.int .i64 (c:Int)):=((Kept.refl (fun k=>k=r) w3).setCell (p:=⟨r,p,none⟩) (fun _=>rfl) _).cell YL hgr;have De:(w3.setCell ⟨r,p,none⟩ (.int .u8 (yz:Int))).drew.drew.frozen? ⟨g,0,none⟩=false:=(World.frozen?_of_block (Below.heap_setCell w3 ⟨r,p,none⟩ _ g hgr)).trans (HM.out.fr 0);have HQ0:Hid _:=Df;have HQ1:Hid _:=De;have BB:Hid _:=HM.out.abD HL.out hk Sk.1 Sk.2.1 Sk.2.2 HC.out.1 HC.out.2.2.2.2.2.1 HC.out.2.2.2.2.2.2.2.1 HC.out.2.2.2.2.2.2.2.2.1 HC.out.2.2.2.2.2.2.2.2.2 HZ.out.2 HY.out HYZ.out
    have Xe:Hid (Kept (Fw g x) w' ((w3.setCell ⟨r,p,none⟩ (.int .u8 (yz:Int))).setCell ⟨g,0,none⟩ (.int .i64 ((c:Int)+(q:Int))))):=by
     refine (ur.out.setCell (fun hlt=>?_) _).setCell (fun _=>.inl rfl) _;rcases RP.out with e | e
     ·exact .inr e.symm
     ·have:=e r rfl;have ada:r<w'.heap.size:=hlt;omega
    clear Df De
    go_region_with (first | (go_at_call 216;refine (hroom _ ?_).mono ?_;(simp [*]);rintro e w' ⟨rfl,rfl⟩) | (go_at_call 215;refine (jC _ ?_).mono ?_;(simp [*]);rintro e w' ⟨rfl,rfl⟩))
    all_goals go_wp2_with fail
    all_goals refine (uh _ HQ0.out HQ1.out).mono ?_
    all_goals rintro e w4 ⟨rfl,rfl⟩
    all_goals go_wp2_with fail
    all_goals go_roundw
    all_goals first
     | (case rel=>exact ⟨j,by have:=HC.out;omega,rfl,_,BB.out.drew.drew,Xe.out.drew.drew,RP.out⟩)
     | (case measure=>simp [intOf];have:=HC.out;omega)
set_option maxRecDepth 100000 in
theorem KU (b o c n:Nat) (fs:List (Nat×Int)) (hn:fs.length=n) (w:World) (hl:n≤16777216)
  (h1:∀i,i<n→w.cell? ⟨b,o+i * 2,none⟩=some (.int .u64 ((fs.getD i (0,0)).1:Int))∧w.cell? ⟨b,o+i * 2+1,none⟩=some (.int .i64 (fs.getD i (0,0)).2)∧(fs.getD i (0,0)).1<18446744073709551616):
  Calls prog 110 #[.slice (some ⟨b,o,none⟩) n c] w fun e w'=>e=.returned (.tuple #[.string (ua fs),.int .i64 (ub fs)])∧Below w.heap.size w w':=by
 have HN:Hid (fs.length=n):=hn;clear hn;go_enter func110,ntmps110;go_wp2_with fail
 refine (qo w).mono ?_;rintro e w1 ⟨rfl,rfl⟩;go_wp2_with fail
 go_loopw [11] (fun i wr=>∃k:Nat,k≤n∧i=.int .i64 (k:Int)∧(∀f∈fs.take k,okF f=true)∧Below w.heap.size w wr∧w.heap.size+1≤wr.heap.size∧∃x,Wr (w.heap.size+1) wr w.heap.size (aA (fs.take k)) x) (fun i _=>n - (intOf i).toNat)
 case atStart=>exact ⟨0,by omega,rfl,by simp,aX _ _,by simp,_,Wr.new w⟩
 case round=>
  obtain ⟨k,hk,rfl,lS,hb,hsz,x,hw⟩:=hrel;have HB:Hid (Below w.heap.size w wr):=hb;have HW:Hid (Wr (w.heap.size+1) wr w.heap.size (aA (fs.take k)) x):=hw;have iN:Hid (∀f∈fs.take k,okF f=true):=lS;clear hw lS;by_cases cE:k<n
  ·obtain ⟨c0,c1,AJ⟩:=h1 k cE;have c0:=cell_later hb c0;have c1:=cell_later hb c1;have i1:(0:Int)≤(k:Int):=by omega
   have i2:(k:Int)<(n:Int):=by omega
   have HS:Hid (fs.take (k+1)=fs.take k++[fs.getD k (0,0)]):=eC fs k (0,0) (by rw [HN.out];exact cE);have HF:Hid (okF (fs.getD k (0,0))=false→fs.all okF=false):=Eb okF fs k (0,0) (by rw [HN.out];exact cE)
   have hlen:Hid ((aA (fs.take k)).length≤64 * k):=by
    have:=D3 _ iN.out;rw [List.length_take] at this;unfold Hid;omega
   obtain ⟨v,d,evd⟩:∃v d,fs.getD k (0,0)=(v,d):=⟨_,_,rfl⟩;rw [evd] at c0 c1 AJ HS HF;clear h1 evd hb
   cases hf:okF (v,d) with
   | true=>
    obtain ⟨d1,d2,d3⟩:=jk hf;obtain ⟨q,rfl⟩:∃q:Nat,d=(q:Int):=⟨d.toNat,by omega⟩;have HP:=fun o=>H8 (w.heap.size+1) w.heap.size v q (aA (fs.take k)) x (wr.alloc o) (by omega) (by omega) (by simpa using d3) (by simp;omega) (HW.out.alloc o) (by have:=hlen.out;omega)
    have HP':Hid _:=HP;have Ep:Hid (okF (v,(q:Int))=true):=hf;clear HP hf d3;go_wp2_with fail
    refine (HP'.out _).mono ?_;rintro e w2 ⟨rfl,x',hw2,EB,_⟩;have HW2:Hid (Wr (w.heap.size+1) w2 w.heap.size (aA (fs.take k)++bo v q) x'):=hw2;have ur:Hid (Kept (Fw w.heap.size x) (wr.alloc (.cells #[.int .u64 (v:Int),.int .i64 (q:Int)] 110)) w2):=EB;clear hw2 EB HP';go_wp2_with fail
    go_roundw
    case rel=>
     have hb2:=(HW.out.alloc _).below ur.out (Nat.le_refl _);refine ⟨k+1,by omega,by go_num,?_,(Below.more HB.out _).trans hb2,by have:=ur.out.size;simp at this;omega,x',?_⟩
     ·rw [HS.out];intro f hf;rcases List.mem_append.1 hf with hf | hf
      ·exact iN.out f hf
      ·simp at hf;subst hf;exact Ep.out
     ·rw [HS.out,aM];have e:aA [(v,(q:Int))]=bo v q:=by simp [aA]
      rw [e];exact HW2.out
    case measure=>simp [intOf];omega
   | false=>
    have HP:=fun w0=>X5 w.heap.size v d w0 AJ hf
    have HP':Hid _:=HP;have hall:Hid (fs.all okF=false):=HF.out hf;clear HP hf;go_wp2_with fail
    refine (HP'.out _).mono ?_;rintro e w2 ⟨rfl,rfl⟩;go_wp2_with fail
    go_ret2
    exact ⟨by simp [ua,ub,hall.out];rfl,Below.more HB.out _⟩
  ·have iX:decide ((k:Int)<(n:Int))=false:=by simp;omega
   have e:fs.take k=fs:=List.take_of_length_le (by rw [HN.out];omega);have HE:Hid (fs.take k=fs):=e;clear e hb h1;go_wp2_with fail
   refine (kZ _ _ _ _ _ HW.out).mono ?_;rintro e w2 ⟨rfl,rfl⟩;go_wp2_with fail
   go_ret2
   have hall:fs.all okF=true:=by
    rw [List.all_eq_true];intro f hf;exact iN.out f (by rw [HE.out];exact hf)
   exact ⟨by simp [ua,ub,hall,HE.out],HB.out⟩
set_option maxRecDepth 100000 in
theorem KV (a:Option Addr) (c:Nat) (w:World):
  Calls prog 110 #[.slice a 0 c] w fun e w'=>e=.returned (.tuple #[.string (ua []),.int .i64 (ub [])])∧Below w.heap.size w w':=by
 go_enter func110,ntmps110;go_wp2_with fail
 refine (qo w).mono ?_;rintro e w1 ⟨rfl,rfl⟩;go_wp2_with fail
 refine wp_loop_rounds 1 ?_;rw [rounds_succ];go_wp2_with fail
 refine (kZ _ _ _ _ _ (Wr.new w)).mono ?_;rintro e w2 ⟨rfl,rfl⟩;go_wp2_with fail
 go_ret2
 exact ⟨rfl,aX _ _⟩
theorem CK (a:Option Addr) (c n:Nat) (fs:List (Nat×Int)) (hn:fs.length=n) (w:World) (hl:n≤16777216) (h:JR w a fs):
  Calls prog 110 #[.slice a n c] w fun e w'=>e=.returned (.tuple #[.string (ua fs),.int .i64 (ub fs)])∧Below w.heap.size w w':=by
 subst hn;by_cases h0:fs=[]
 ·subst h0;exact KV a c w
 ·obtain ⟨b,o,rfl,k1⟩:=h.spot h0;exact KU b o c fs.length fs rfl w hl k1
end Go.Proofs.YtanaapfobpgibaaGreatDoor.Bt
