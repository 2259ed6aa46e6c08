/- BitDone, BitSpec, BitPut, BitPack, joined. -/
import Derived.Test.YtoimkngkcliinaaGreatDoorJBitMath
import Derived.BigQuiet
import Derived.Laws.IdiomStrings
import Derived.Deep.RegionWith
import Derived.Deep.DrawnRows
namespace Go.Proofs.YtoimkngkcliinaaGreatDoor.Bt
open Go.RowKit Go.Maps
set_option linter.unusedVariables false
set_option maxRecDepth 4000
attribute [local go_sem ↓] Go.wp_at_zero Go.wp_at_succ
/- A text of these bytes. -/
def tx (l:List Nat):ByteArray:=⟨(l.map UInt8.ofNat).toArray⟩
theorem tx_size (l:List Nat):(tx l).size=l.length:=by simp [tx,ByteArray.size]
theorem bys_tx (l:List Nat) (h:∀x∈l,x<256):bys (tx l)=l:=by
 simp only [bys,tx,List.map_map]
 conv=>rhs;rw [←List.map_id l]
 apply List.map_congr_left
 intro x hx;have:=h x hx;simp [UInt8.toNat_ofNat'];omega
theorem tx_bys (s:ByteArray):tx (bys s)=s:=by
 cases s with
 | mk d=>simp [bys,tx,List.map_map,Function.comp_def]
theorem bytes_any (B g:Nat) (l:List Bool) (x:Value) (w:World) (h:Wr B w g l x):Calls Tryz.prog 168 #[.pointer (some ⟨g,0,none⟩)] w fun e w'=>e=.returned (.string (tx (pk l)))∧w'=w:=by
 have h1:=h.c1;rcases h.row.2 with ⟨h0,hn⟩ | ⟨r,cap,cur,hv,_⟩
 ·subst h0;have hp:pk l=[]:=List.length_eq_zero_iff.1 hn;rw [hp]
  have hc:(convert 226 9 (.slice none 0 0)).run Tryz.prog w=.ok (.string (tx [])) w:=by
   rw [run_convert_bytes_string w 226 9 5 none 0 0 Tryz.underlying226 Tryz.underlying5 Tryz.underlying9];rfl
  go_enter Tryz.func168,Tryz.ntmps168;go_wp2
  go_ret;exact ⟨rfl,rfl⟩
 ·subst hv;have hr:=h.row
  have hc:=run_convert_bytes_back (P:=Tryz.prog) w 226 9 5 ⟨r,0,none⟩ cap ((pk l).map UInt8.ofNat) Tryz.underlying226 Tryz.underlying5 Tryz.underlying9 (fun j hj=>by
   simp at hj;have e:((⟨r,0,none⟩:Addr).add j)=⟨r,j,none⟩:=by unfold Addr.add;split <;> simp_all
   rw [e,hr.cellAt j (by omega)];have hlt:=pk_lt l (pk l)[j] (List.getElem_mem hj)
   simp [u8s,hj,UInt8.toNat_ofNat'];omega)
  rw [List.length_map] at hc;have HC:Hid _:=hc;clear hc;generalize hm:(pk l).length=m at h1 HC;have hc:=HC.out;clear HC hm hr;go_enter Tryz.func168,Tryz.ntmps168;go_wp2
  go_ret;exact ⟨rfl,rfl⟩
theorem done_any (g c:Nat) (s:ByteArray) (w:World) (h:Rr w g c s) (hs:s.size<1125899906842624):
  Calls Tryz.prog 276 #[.pointer (some ⟨g,0,none⟩)] w fun e w'=>e=.returned (.bool (dn (tb (bys s)) c))∧Below w.heap.size w w':=by
 have hl:=left_any g c s w h hs;have hle:=h.le;have hlen:(tb (bys s)).length=8 * s.size:=by rw [tb_length,bys_length]
 obtain ⟨m,hm⟩:∃m,8 * s.size - c=m:=⟨_,rfl⟩;rw [hm] at hl;by_cases h0:m=0
 ·have hd:dn (tb (bys s)) c=true:=by
   have:(tb (bys s)).drop c=[]:=List.drop_eq_nil_of_le (by omega);simp only [dn,this,hlen];simp [bv];omega
  rw [hd];subst h0;clear hm hle hlen hd;go_enter Tryz.func276,Tryz.ntmps276;go_wp2_with fail
  refine hl.mono ?_;rintro e w2 ⟨rfl,rfl⟩;go_wp2
  go_ret;exact ⟨rfl,(Below.refl _ _).drew⟩
 ·by_cases h8:m<8
  ·obtain ⟨p,hp⟩:∃p,c/8=p:=⟨_,rfl⟩;have hps:p<s.size:=by omega
   obtain ⟨y,hy⟩:∃y,(s[p]'hps).toNat=y:=⟨_,rfl⟩;have hy256:y<256:=by rw [←hy];exact UInt8.toNat_lt _
   have hwy:IntKind.u64.wrap ((s[p]'hps).toNat:Int)=(y:Int):=by rw [hy,IntKind.wrap_u64];omega
   obtain ⟨t,ht⟩:∃t,y%2^m=t:=⟨_,rfl⟩;have hand:bits .and .u64 (y:Int) ((2^m - 1:Nat):Int)=(t:Int):=by rw [←ht];exact and64 y m (by omega) (by omega)
   have hd:dn (tb (bys s)) c=decide ((t:Int)=0):=by
    have e:bv ((tb (bys s)).drop c)=t:=by
     have h1:(tb (bys s)).drop c=((tb (bys s)).drop c).take m:=(List.take_of_length_le (by simp [bys_length];omega)).symm;rw [h1,tb_part (bys s) c m (by omega) (by rw [bys_length];omega)];subst hp;rw [bys_get s (c/8) hps,hy,show 8 - c%8 - m=0 by omega,Nat.pow_zero,Nat.div_one,ht]
    unfold dn;rw [e,hlen,hm];simp [h8]
   rw [hd];have hplace:=fun w0 h=>place_any g c w0 (by omega) h
   rw [hp] at hplace;have hlow:=fun w0=>lowest_any m (by omega) w0
   have hc0:w.drew.cell? ⟨g,0,none⟩=some (.int .i64 (c:Int)):=h.c0;have hc1:w.drew.cell? ⟨g,1,none⟩=some (.string s):=h.c1;have p1:(0:Int)≤(p:Int):=by omega
   have p2:(p:Int)<(s.size:Int):=by omega
   have m1:decide ((m:Int)=0)=false:=by simp;omega
   have m2:((m:Int)==0)=false:=by simp;omega
   have m3:(m:Int)<8:=by omega
   clear hm hle hlen hd hp hy ht;go_enter Tryz.func276,Tryz.ntmps276;go_wp2_with fail
   refine hl.mono ?_;rintro e w2 ⟨rfl,rfl⟩;go_wp2_with fail
   go_region_held3 (fun w'=>w'.cell? ⟨g,0,none⟩=some (.int .i64 (c:Int))∧w'.cell? ⟨g,1,none⟩=some (.string s)) (go_keep) (first | (go_at_call 288;refine (hplace _ ?_).mono ?_;(simp [*]);rintro e w' ⟨rfl,rfl⟩) | (go_at_call 290;refine (hlow _).mono ?_;rintro e w' ⟨rfl,rfl⟩))
   all_goals go_wp2_with fail
   all_goals go_ret
   all_goals exact ⟨ret_bool (by first | rfl | simp),(Below.refl _ _).drew.drew⟩
  ·have hd:dn (tb (bys s)) c=false:=by
    unfold dn;rw [hlen,hm];simp [h8]
   rw [hd];have m1:decide ((m:Int)=0)=false:=by simp;omega
   have m2:((m:Int)==0)=false:=by simp;omega
   have m3:decide ((m:Int)<8)=false:=by simp;omega
   clear hm hle hlen hd;go_enter Tryz.func276,Tryz.ntmps276;go_wp2_with fail
   refine hl.mono ?_;rintro e w2 ⟨rfl,rfl⟩;go_wp2_with fail
   go_quiet (fail)
   go_wp2_with fail
   go_ret;exact ⟨rfl,⟨rfl,rfl,rfl,Nat.le_refl _,fun _ _=>rfl⟩⟩
def okF (f:Nat×Int):Bool:=gw f.2&&decide (f.1<2^f.2.toNat)
def bitsF (fs:List (Nat×Int)):List Bool:=fs.flatMap fun f=>bo f.1 f.2.toNat
theorem bitsF_append (a b:List (Nat×Int)):bitsF (a++b)=bitsF a++bitsF b:=by simp [bitsF]
theorem okF_width {f:Nat×Int} (h:okF f=true):1≤f.2∧f.2≤64∧f.1<2^f.2.toNat:=by simp [okF,gw] at h;omega
theorem bitsF_le (fs:List (Nat×Int)) (h:∀f∈fs,okF f=true):(bitsF fs).length≤64 * fs.length:=by
 induction fs with
 | nil=>simp [bitsF]
 | cons f fs ih=>
  have h1:=ih (fun g hg=>h g (by simp [hg]));have h2:=okF_width (h f (by simp));have e:bitsF (f::fs)=bo f.1 f.2.toNat++bitsF fs:=rfl;rw [e,List.length_append,bo_length,List.length_cons];omega
def pkS (fs:List (Nat×Int)):ByteArray:=if fs.all okF then tx (pk (bitsF fs)) else tx []
def pkE (fs:List (Nat×Int)):Int:=if fs.all okF then 0 else 6
theorem take_snoc {α:Type} (l:List α) (k:Nat) (d:α) (hk:k<l.length):l.take (k+1)=l.take k++[l.getD k d]:=by
 rw [List.take_add_one];simp [List.getElem?_eq_getElem hk]
theorem all_take {α:Type} (p:α→Bool) (l:List α) (k:Nat) (d:α) (hk:k<l.length) (h:p (l.getD k d)=false):l.all p=false:=by
 rw [Bool.eq_false_iff];intro ha;rw [List.all_eq_true] at ha;have:=ha (l.getD k d) (by simp [hk]);rw [h] at this;cases this
/- Taking bits by widths. -/
def tks (T:List Bool) (st:Option (Nat×List Nat)) (w:Int):Option (Nat×List Nat):=
 match st with
 | none=>none
 | some (c,vs)=>if 1≤w∧w≤64∧w≤((T.length - c:Nat):Int) then some (c+w.toNat,vs++[bv ((T.drop c).take w.toNat)]) else none
def tk (T:List Bool) (ws:List Int):Option (Nat×List Nat):=ws.foldl (tks T) (some (0,[]))
theorem tks_none (T:List Bool) (ws:List Int):ws.foldl (tks T) none=none:=by
 induction ws with
 | nil=>rfl
 | cons w ws ih=>simpa [tks] using ih
theorem tk_snoc (T:List Bool) (ws:List Int) (w:Int):tk T (ws++[w])=tks T (tk T ws) w:=by simp [tk]
theorem tk_take (T:List Bool) (ws:List Int) (k:Nat) (hk:k<ws.length):tk T (ws.take (k+1))=tks T (tk T (ws.take k)) (ws.getD k 0):=by
 rw [take_snoc ws k 0 hk,tk_snoc]
theorem tk_none (T:List Bool) (ws:List Int) (k:Nat) (h:tk T (ws.take k)=none):tk T ws=none:=by
 have e:ws=ws.take k++ws.drop k:=by simp
 unfold tk at *;rw [e,List.foldl_append,h,tks_none]
theorem tk_le (T:List Bool):∀(ws:List Int) (c0:Nat) (v0:List Nat) (c:Nat) (vs:List Nat),c0≤T.length→ws.foldl (tks T) (some (c0,v0))=some (c,vs)→c≤T.length∧vs.length=v0.length+ws.length
 | [],c0,v0,c,vs,h0,h=>by simp at h;obtain ⟨rfl,rfl⟩:=h;simp;omega
 | w::ws,c0,v0,c,vs,h0,h=>by
  simp only [List.foldl_cons,tks] at h;split at h
  ·rename_i hw
   have:=tk_le T ws _ _ c vs (by omega) h;simp at this ⊢;omega
  ·rw [tks_none] at h;cases h
def un (T:List Bool) (ws:List Int):Option (List Nat):=
 match tk T ws with
 | none=>none
 | some (c,vs)=>if dn T c then some vs else none
def unL (T:List Bool) (ws:List Int):List Nat:=(un T ws).getD []
def unE (T:List Bool) (ws:List Int):Int:=if (un T ws).isSome then 0 else 6
theorem un_bad {T:List Bool} {ws:List Int} (h:tk T ws=none):unL T ws=[]∧unE T ws=6:=by simp [unL,unE,un,h]
theorem un_open {T:List Bool} {ws:List Int} {c:Nat} {vs:List Nat} (h:tk T ws=some (c,vs)) (hd:dn T c=false):unL T ws=[]∧unE T ws=6:=by simp [unL,unE,un,h,hd]
theorem un_good {T:List Bool} {ws:List Int} {c:Nat} {vs:List Nat} (h:tk T ws=some (c,vs)) (hd:dn T c=true):unL T ws=vs∧unE T ws=0:=by simp [unL,unE,un,h,hd]
/- Fields in memory. -/
def RdF (w:World) (a:Option Addr) (fs:List (Nat×Int)):Prop:=
 ∀i,i<fs.length→∃b o,a=some ⟨b,o,none⟩∧w.cell? ⟨b,o+i * 2,none⟩=some (.int .u64 ((fs.getD i (0,0)).1:Int))∧w.cell? ⟨b,o+i * 2+1,none⟩=some (.int .i64 (fs.getD i (0,0)).2)∧(fs.getD i (0,0)).1<18446744073709551616
theorem RdF.spot {w:World} {a:Option Addr} {fs:List (Nat×Int)} (h:RdF w a fs) (h0:fs≠[]):∃b o,a=some ⟨b,o,none⟩∧∀i,i<fs.length→w.cell? ⟨b,o+i * 2,none⟩=some (.int .u64 ((fs.getD i (0,0)).1:Int))∧w.cell? ⟨b,o+i * 2+1,none⟩=some (.int .i64 (fs.getD i (0,0)).2)∧(fs.getD i (0,0)).1<18446744073709551616:=by
 have hp:0<fs.length:=List.length_pos_iff.2 h0;obtain ⟨b,o,e,_⟩:=h 0 hp;refine ⟨b,o,e,fun i hi=>?_⟩;obtain ⟨b',o',e',c0,c1⟩:=h i hi;rw [e] at e';simp at e';obtain ⟨rfl,rfl⟩:=e';exact ⟨c0,c1⟩
/- Integers in memory. -/
def RdI (w:World) (a:Option Addr) (ws:List Int):Prop:=
 ∀i,i<ws.length→∃b o,a=some ⟨b,o,none⟩∧w.cell? ⟨b,o+i,none⟩=some (.int .i64 (ws.getD i 0))
theorem RdI.spot {w:World} {a:Option Addr} {ws:List Int} (h:RdI w a ws) (h0:ws≠[]):∃b o,a=some ⟨b,o,none⟩∧∀i,i<ws.length→w.cell? ⟨b,o+i,none⟩=some (.int .i64 (ws.getD i 0)):=by
 have hp:0<ws.length:=List.length_pos_iff.2 h0;obtain ⟨b,o,e,_⟩:=h 0 hp;refine ⟨b,o,e,fun i hi=>?_⟩;obtain ⟨b',o',e',c0⟩:=h i hi;rw [e] at e';simp at e';obtain ⟨rfl,rfl⟩:=e';exact c0
def u64s (l:List Nat):List Value:=l.map fun n:Nat=>Value.int .u64 (n:Int)
@[simp] theorem u64s_length (l:List Nat):(u64s l).length=l.length:=by simp [u64s]
theorem u64s_snoc (l:List Nat) (x:Nat):u64s (l++[x])=u64s l++[.int .u64 (x:Int)]:=by simp [u64s]
theorem info64:(Tryz.prog.info? 160).map (fun i=>(i.zero,i.size,i.bytes))=some (some (.int .u64 0),1,8):=by kernel_rfl
theorem Wr.below {B:Nat} {w w':World} {g:Nat} {l:List Bool} {x:Value} (h:Wr B w g l x) (hk:Kept (Fw g x) w w') {B0:Nat} (h0:B0≤g):Below B0 w w':=by
 have hg:=(Array.getElem?_eq_some_iff.1 h.blk).1;refine hk.below (by omega) (fun k hk=>?_);rcases hk with rfl | hk
 ·exact h0
 ·have:=(h.row.lt k hk).1;have:=h.lt;omega
theorem below1 (w:World) (o:Obj):Below w.heap.size w (w.alloc o):=(Below.refl _ _).alloc (Nat.le_refl _) _
theorem Below.more {w0 w:World} (h:Below w0.heap.size w0 w) (o:Obj):Below w0.heap.size w0 (w.alloc o):=h.alloc h.size _
theorem Below.then {w0 w w':World} (h:Below w0.heap.size w0 w) (hb:Below w.heap.size w w'):Below w0.heap.size w0 w':=h.trans (hb.mono h.size)
attribute [local go_sem ↓] Go.wp_at_zero Go.wp_at_succ
set_option maxHeartbeats 2000000 in
set_option maxRecDepth 100000 in
theorem put_no (g v:Nat) (n:Int) (w:World) (hv:v<18446744073709551616) (h:(gw n&&decide (v<2^n.toNat))=false):Calls Tryz.prog 215 #[.pointer (some ⟨g,0,none⟩),.int .u64 (v:Int),.int .i64 n] w fun e w'=>e=.returned (.int .i64 6)∧w'=w:=by
 go_enter Tryz.func215,Tryz.ntmps215;go_wp2_with fail
 refine (right_any v n _ hv).mono ?_;rintro e w' ⟨rfl,rfl⟩;rw [h];go_wp2
 go_ret;exact ⟨rfl,rfl⟩
set_option maxHeartbeats 2000000 in
set_option maxRecDepth 100000 in
theorem put_yes (B g v n:Nat) (l:List Bool) (x:Value) (w:World) (h1:1≤n) (h2:n≤64) (hv:v<2^n) (hB:B≤w.heap.size) (hw:Wr B w g l x) (hl:l.length+n≤1099511627776):
  Calls Tryz.prog 215 #[.pointer (some ⟨g,0,none⟩),.int .u64 (v:Int),.int .i64 (n:Int)] w fun e w'=>e=.returned (.int .i64 0)∧∃x',Wr B w' g (l++bo v n) x'∧Kept (Fw g x) w w'∧(x'.ownBlock=x.ownBlock∨∀k,x'.ownBlock=some k→w.heap.size≤k):=by
 obtain ⟨i0,hi,hz0,hz1,hz2⟩:=info_parts info8;have hv64:v<18446744073709551616:=Nat.lt_of_lt_of_le hv (by have:=Nat.pow_le_pow_right (n:=2) (by decide) h2;simpa using this);have hr:(gw (n:Int)&&decide (v<2^(n:Int).toNat))=true:=by simp [gw,hv];omega
 go_enter Tryz.func215,Tryz.ntmps215;go_wp2_with fail
 refine (right_any v n _ hv64).mono ?_;rintro e w' ⟨rfl,rfl⟩;rw [hr];clear hr;go_wp2_with fail
 go_loopw [2] (fun i wr=>∃k:Nat,k≤n∧i=.int .i64 (k:Int)∧∃x',Wr B wr g (l++bo (v/2^k) (n - k)) x'∧Kept (Fw g x) w' wr∧(x'.ownBlock=x.ownBlock∨∀k,x'.ownBlock=some k→w'.heap.size≤k)) (fun i _=>(intOf i).toNat)
 case atStart=>exact ⟨n,Nat.le_refl _,rfl,x,by simpa [bo] using hw,Kept.refl _ _,.inl rfl⟩
 case round=>
  obtain ⟨k,hk,rfl,x1,hw1,hkp,hown⟩:=hrel;have HKP:Hid (Kept (Fw g x) w' wr):=hkp;have HOWN:Hid (x1.ownBlock=x.ownBlock∨∀k,x1.ownBlock=some k→w'.heap.size≤k):=hown;clear hkp hown;by_cases hk0:k=0
  ·subst hk0;have hz:decide (((0:Nat):Int)>0)=false:=rfl;go_wp2
   go_ret;exact ⟨rfl,x1,by simpa using hw1,HKP.out,HOWN.out⟩
  ·obtain ⟨L,hL⟩:∃L,l++bo (v/2^k) (n - k)=L:=⟨_,rfl⟩;have HL:Hid (l++bo (v/2^k) (n - k)=L):=hL;have hLl:L.length=l.length+(n - k):=by rw [←hL];simp
   rw [hL] at hw1;clear hL;obtain ⟨a1,cap0,rfl⟩:=hw1.spell;obtain ⟨c,hc⟩:∃c,L.length=c:=⟨_,rfl⟩;have hc0:=hw1.c0;have hc1:=hw1.c1;have HW1:Hid (Wr B wr g L (.slice a1 (pk L).length cap0)):=hw1;clear hw1;have hpl:=pk_length L;obtain ⟨m,hm⟩:∃m,(pk L).length=m:=⟨_,rfl⟩;rw [hm] at hc1 hpl HW1 HOWN;rw [hc] at hc0 hpl hLl;obtain ⟨p,hp⟩:∃p,c/8=p:=⟨_,rfl⟩;have hplace:=fun w0 h=>place_any g c w0 (by omega) h
   rw [hp] at hplace;obtain ⟨rm,hrm⟩:∃rm,8 - c%8=rm:=⟨_,rfl⟩;have hroom:=fun w0 h=>room_any g c w0 (by omega) h
   rw [hrm] at hroom;have hrm8:1≤rm∧rm≤8:=by omega
   obtain ⟨q,hq⟩:∃q,min k rm=q:=⟨_,rfl⟩;have hqk:1≤q∧q≤k∧q≤rm:=by omega
   have hlow:=fun w0=>lowest_any q (by omega) w0
   have hadd:=fun w0 h f=>add_any g c q w0 (by omega) h f
   have hmin:(if (rm:Int)<(k:Int) then (rm:Int) else (k:Int))=(q:Int):=by split <;> omega
   have hmin2:(if rm<k then (rm:Int) else (k:Int))=(q:Int):=by split <;> omega
   obtain ⟨j,hj⟩:∃j,k - q=j:=⟨_,rfl⟩;obtain ⟨t,ht⟩:∃t,v/2^j%2^q=t:=⟨_,rfl⟩
   have hand:bits .and .u64 ((v:Int)/2^j) ((2^q - 1:Nat):Int)=(t:Int):=by
    have:=and64 (v/2^j) q (Nat.lt_of_le_of_lt (Nat.div_le_self _ _) hv64) (by omega);rw [ht] at this;rw [←this];simp
   obtain ⟨d,hd⟩:∃d,rm - q=d:=⟨_,rfl⟩;have hwd:=wrap64_nat d (by omega)
   have ht256:t * 2^d<2^rm:=by
    have h:=Nat.mod_lt (v/2^j) (Nat.two_pow_pos q);rw [ht] at h;have e:2^rm=2^q * 2^d:=by rw [←Nat.pow_add,show q+d=rm by omega]
    rw [e];exact Nat.mul_lt_mul_of_pos_right h (Nat.two_pow_pos d)
   obtain ⟨z,hz⟩:∃z,t * 2^d=z:=⟨_,rfl⟩;rw [hz] at ht256;have hz256:z<256:=Nat.lt_of_lt_of_le ht256 (by have:=Nat.pow_le_pow_right (n:=2) (by decide) hrm8.2;simpa using this);have hshl:=shl_wrap t d z hz (by omega);have hz3:(z:Int)%256=(z:Int):=by omega
   have HZ:Hid (z<2^rm∧t * 2^d=z):=⟨ht256,hz⟩;clear ht256 hz;have hsub2:(rm:Int) - (q:Int)=(d:Int):=by omega
   have hsub:(k:Int) - (q:Int)=(j:Int):=by omega
   have HC:Hid (L.length=c∧c=l.length+(n - k)∧(pk L).length=m∧m=(c+7)/8∧c/8=p∧8 - c%8=rm∧min k rm=q∧k - q=j∧v/2^j%2^q=t∧rm - q=d):=⟨hc,hLl,hm,hpl,hp,hrm,hq,hj,ht,hd⟩;have hj64:j≤63:=by omega
   have kpos:(0:Int)<(k:Int):=by omega
   have hpb:p<1099511627776:=by omega
   have HB:Hid (B≤wr.heap.size):=by have:=HKP.out.size;unfold Hid;omega
   by_cases hr0:c%8=0
   ·have hpm:p=m:=by omega
    subst hpm;clear hc hLl hm hpl hp hrm hq hj ht hd;go_wp2_with fail
    go_region_held3 (fun w'=>w'.cell? ⟨g,0,none⟩=some (.int .i64 (c:Int))∧w'.cell? ⟨g,1,none⟩=some (.slice a1 p cap0)) (go_keep) ((go_at_call 288;refine (hplace _ ?_).mono ?_;(simp [*]);rintro e w' ⟨rfl,rfl⟩))
    have HRW:Hid (wr.drew.ownsRow B 5 1 (.slice a1 p cap0) p (u8s (pk L))):=by
     have:=HW1.out.row;rw [HC.out.2.2.1] at this;exact this
    go_wp2_with (at_builtin;refine wpList_append_lies _ rfl _ _ _ rfl B 5 i0 _ 1 1 Tryz.underlying226 hi hz0 hz1 hz2 rfl (by omega) _ p (u8s (pk L)) rfl (HRW.out.alloc _) ⟨wr.heap.size,0,none⟩ 1 1 [.int .u8 0] rfl rfl (cell_one_at _ _ _ _ rfl) (by simp [Value.oneCell']) (by omega) (by unfold maxLen;omega) (by omega) (by have:=HB.out;simp;omega) (wr.heap.size+1) (by simp) ?_;intro r cap1 w2 hown2 hgrow2 hat2 hlt2;obtain ⟨hd1,hf1⟩:=(HW1.out.drew.alloc _).far hgrow2;have HG2:Hid ((wr.drew.alloc (.cells #[.int .u8 0] 5)).grownBy w2 (Value.slice a1 p cap0).ownBlock):=hgrow2;have HO2:Hid (w2.ownsRow B 5 1 (.slice (some ⟨r,0,none⟩) (p+1) cap1) (p+1) (u8s (pk L)++[.int .u8 0])):=hown2;have HA2:Hid ((Value.slice a1 p cap0).ownBlock=some r∨r=wr.heap.size+1):=hat2;clear hown2 hgrow2 hat2 hlt2)
    have HM:Hid (Wm B (w2.setCell ⟨g,1,none⟩ (.slice (some ⟨r,0,none⟩) (p+1) cap1)) g L r p cap1):=(HW1.out.drew.alloc _).grown (by rw [HC.out.1];exact HC.out.2.2.2.2.1) (by rw [HC.out.1];exact hr0) HO2.out HG2.out
    have HK2:Hid (Kept (Fw g x) w' (w2.setCell ⟨g,1,none⟩ (.slice (some ⟨r,0,none⟩) (p+1) cap1))):=by
     refine Kept.setCell ((HKP.out.drew.alloc _).grown HG2.out ?_) (fun _=>.inl rfl) _;intro j hj hlt;rcases HOWN.out with e | e
     ·exact .inr (e ▸ hj)
     ·have:=e j hj;omega
    have HO3:Hid ((Value.slice (some ⟨r,0,none⟩) (p+1) cap1).ownBlock=x.ownBlock∨∀j,(Value.slice (some ⟨r,0,none⟩) (p+1) cap1).ownBlock=some j→w'.heap.size≤j):=by
     rcases HA2.out with e | e
     ·rcases HOWN.out with e' | e'
      ·exact .inl (e.symm.trans e')
      ·exact .inr fun j hj=>by cases hj;exact e' r e
     ·exact .inr fun j hj=>by cases hj;show w'.heap.size≤r;have:=HKP.out.size;omega
    obtain ⟨W2,hW2⟩:∃W2,w2.setCell ⟨g,1,none⟩ (.slice (some ⟨r,0,none⟩) (p+1) cap1)=W2:=⟨_,rfl⟩;rw [hW2] at HM HK2 ⊢;clear hW2 HG2 HA2 HO2 hd1 hf1 HOWN HKP HW1 HRW hc0 hc1;have hm0:=HM.out.c0;have hm1:=HM.out.c1;rw [HC.out.1] at hm0;refine (hroom W2 hm0).mono ?_;rintro e w3 ⟨rfl,rfl⟩;go_wp2_with fail
    go_region_held3 (fun w'=>w'.cell? ⟨g,0,none⟩=some (.int .i64 (c:Int))) (go_keep) ((go_at_call 290;refine (hlow _).mono ?_;rintro e w' ⟨rfl,rfl⟩))
    go_wp2_with fail
    have hmp:=HM.out.cp;have hfp:=HM.out.fp;have hgr:g≠r:=by have:=HM.out.ge;have:=HM.out.lt;omega
    have hrg:r≠g:=fun e=>hgr e.symm
    obtain ⟨y,hy⟩:∃y,by8 (L.drop (8 * p))=y:=⟨_,rfl⟩;have HY:Hid (by8 (L.drop (8 * p))=y):=hy;rw [hy] at hmp
    have hor:bits .or .u8 (y:Int) (z:Int)=((y+z:Nat):Int):=by
     refine or8 rm y z ?_ HZ.out.1 (by rw [←hy];exact by8_lt _) hz256;rw [←hy,by8_short _ (by have:=HC.out;simp;omega)];have:8 - (L.drop (8 * p)).length=rm:=by have:=HC.out;simp;omega
     rw [this];exact Nat.mul_mod_left _ _
    obtain ⟨yz,hyz⟩:∃yz,y+z=yz:=⟨_,rfl⟩;rw [hyz] at hor;have HYZ:Hid (y+z=yz):=hyz;clear hy hyz;have p1:(0:Int)≤(p:Int):=by omega
    have p2:(p:Int)<(p:Int)+1:=by omega
    have hq0:(w3.setCell ⟨r,p,none⟩ (.int .u8 (yz:Int))).drew.drew.cell? ⟨g,0,none⟩=some (.int .i64 (c:Int)):=((Kept.refl (fun k=>k=r) w3).setCell (p:=⟨r,p,none⟩) (fun _=>rfl) _).cell hm0 hgr;have hq1:(w3.setCell ⟨r,p,none⟩ (.int .u8 (yz:Int))).drew.drew.frozen? ⟨g,0,none⟩=false:=(World.frozen?_of_block (Below.heap_setCell w3 ⟨r,p,none⟩ _ g hgr)).trans (HM.out.fr 0);have HQ0:Hid _:=hq0;have HQ1:Hid _:=hq1;have HFIN:Hid _:=HM.out.fin2 HL.out hk hqk.1 hqk.2.1 hqk.2.2 HC.out.1 HC.out.2.2.2.2.2.1 HC.out.2.2.2.2.2.2.2.1 HC.out.2.2.2.2.2.2.2.2.1 HC.out.2.2.2.2.2.2.2.2.2 HZ.out.2 HY.out HYZ.out
    have HKF:Hid (Kept (Fw g x) w' ((w3.setCell ⟨r,p,none⟩ (.int .u8 (yz:Int))).setCell ⟨g,0,none⟩ (.int .i64 ((c:Int)+(q:Int))))):=by
     refine (HK2.out.setCell (fun hlt=>?_) _).setCell (fun _=>.inl rfl) _;rcases HO3.out with e | e
     ·exact .inr e.symm
     ·have:=e r rfl;have hlt':r<w'.heap.size:=hlt;omega
    clear hq0 hq1
    go_region_with (first | (go_at_call 289;refine (hroom _ ?_).mono ?_;(simp [*]);rintro e w' ⟨rfl,rfl⟩) | (go_at_call 288;refine (hplace _ ?_).mono ?_;(simp [*]);rintro e w' ⟨rfl,rfl⟩))
    all_goals go_wp2_with fail
    all_goals refine (hadd _ HQ0.out HQ1.out).mono ?_
    all_goals rintro e w4 ⟨rfl,rfl⟩
    all_goals go_wp2_with fail
    all_goals go_roundw
    all_goals first
     | (case rel=>exact ⟨j,by have:=HC.out;omega,rfl,_,HFIN.out.drew.drew,HKF.out.drew.drew,HO3.out⟩)
     | (case measure=>simp [intOf];have:=HC.out;omega)
   ·have hpm:m=p+1:=by omega
    subst hpm;have hne:decide ((p:Int)=((p+1:Nat):Int))=false:=by simp;omega
    have hne2:((p:Int)==((p+1:Nat):Int))=false:=by simp;omega
    obtain ⟨r,cap1,e,hwm⟩:=HW1.out.part (by rw [hc];exact hr0);obtain ⟨e1,-,e2⟩:a1=some ⟨r,0,none⟩∧p+1=L.length/8+1∧cap0=cap1:=by simpa using e
    have e3:=e2.symm;subst e1 e3;rw [hc,hp] at hwm;have HM0:Hid (Wm B wr g L r p cap1):=hwm;clear hc hLl hm hpl hp hrm hq hj ht hd e hwm e2;go_wp2_with fail
    go_region_held3 (fun w'=>w'.cell? ⟨g,0,none⟩=some (.int .i64 (c:Int))∧w'.cell? ⟨g,1,none⟩=some (.slice (some ⟨r,0,none⟩) (p+1) cap1)) (go_keep) ((go_at_call 288;refine (hplace _ ?_).mono ?_;(simp [*]);rintro e w' ⟨rfl,rfl⟩))
    go_wp2_with fail
    have HM:Hid (Wm B wr.drew g L r p cap1):=HM0.out.drew;have HK2:Hid (Kept (Fw g x) w' wr.drew):=HKP.out.drew;have HO3:Hid ((Value.slice (some ⟨r,0,none⟩) (p+1) cap1).ownBlock=x.ownBlock∨∀j,(Value.slice (some ⟨r,0,none⟩) (p+1) cap1).ownBlock=some j→w'.heap.size≤j):=HOWN.out;obtain ⟨W2,hW2⟩:∃W2,wr.drew=W2:=⟨_,rfl⟩;rw [hW2] at HM HK2 ⊢;clear hW2 HM0 HOWN HKP HW1 hc0 hc1;have hm0:=HM.out.c0;have hm1:=HM.out.c1;rw [HC.out.1] at hm0;refine (hroom W2 hm0).mono ?_;rintro e w3 ⟨rfl,rfl⟩;go_wp2_with fail
    go_region_held3 (fun w'=>w'.cell? ⟨g,0,none⟩=some (.int .i64 (c:Int))) (go_keep) ((go_at_call 290;refine (hlow _).mono ?_;rintro e w' ⟨rfl,rfl⟩))
    go_wp2_with fail
    have hmp:=HM.out.cp;have hfp:=HM.out.fp;have hgr:g≠r:=by have:=HM.out.ge;have:=HM.out.lt;omega
    have hrg:r≠g:=fun e=>hgr e.symm
    obtain ⟨y,hy⟩:∃y,by8 (L.drop (8 * p))=y:=⟨_,rfl⟩;have HY:Hid (by8 (L.drop (8 * p))=y):=hy;rw [hy] at hmp
    have hor:bits .or .u8 (y:Int) (z:Int)=((y+z:Nat):Int):=by
     refine or8 rm y z ?_ HZ.out.1 (by rw [←hy];exact by8_lt _) hz256;rw [←hy,by8_short _ (by have:=HC.out;simp;omega)];have:8 - (L.drop (8 * p)).length=rm:=by have:=HC.out;simp;omega
     rw [this];exact Nat.mul_mod_left _ _
    obtain ⟨yz,hyz⟩:∃yz,y+z=yz:=⟨_,rfl⟩;rw [hyz] at hor;have HYZ:Hid (y+z=yz):=hyz;clear hy hyz;have p1:(0:Int)≤(p:Int):=by omega
    have p2:(p:Int)<(p:Int)+1:=by omega
    have hq0:(w3.setCell ⟨r,p,none⟩ (.int .u8 (yz:Int))).drew.drew.cell? ⟨g,0,none⟩=some (.int .i64 (c:Int)):=((Kept.refl (fun k=>k=r) w3).setCell (p:=⟨r,p,none⟩) (fun _=>rfl) _).cell hm0 hgr;have hq1:(w3.setCell ⟨r,p,none⟩ (.int .u8 (yz:Int))).drew.drew.frozen? ⟨g,0,none⟩=false:=(World.frozen?_of_block (Below.heap_setCell w3 ⟨r,p,none⟩ _ g hgr)).trans (HM.out.fr 0);have HQ0:Hid _:=hq0;have HQ1:Hid _:=hq1;have HFIN:Hid _:=HM.out.fin2 HL.out hk hqk.1 hqk.2.1 hqk.2.2 HC.out.1 HC.out.2.2.2.2.2.1 HC.out.2.2.2.2.2.2.2.1 HC.out.2.2.2.2.2.2.2.2.1 HC.out.2.2.2.2.2.2.2.2.2 HZ.out.2 HY.out HYZ.out
    have HKF:Hid (Kept (Fw g x) w' ((w3.setCell ⟨r,p,none⟩ (.int .u8 (yz:Int))).setCell ⟨g,0,none⟩ (.int .i64 ((c:Int)+(q:Int))))):=by
     refine (HK2.out.setCell (fun hlt=>?_) _).setCell (fun _=>.inl rfl) _;rcases HO3.out with e | e
     ·exact .inr e.symm
     ·have:=e r rfl;have hlt':r<w'.heap.size:=hlt;omega
    clear hq0 hq1
    go_region_with (first | (go_at_call 289;refine (hroom _ ?_).mono ?_;(simp [*]);rintro e w' ⟨rfl,rfl⟩) | (go_at_call 288;refine (hplace _ ?_).mono ?_;(simp [*]);rintro e w' ⟨rfl,rfl⟩))
    all_goals go_wp2_with fail
    all_goals refine (hadd _ HQ0.out HQ1.out).mono ?_
    all_goals rintro e w4 ⟨rfl,rfl⟩
    all_goals go_wp2_with fail
    all_goals go_roundw
    all_goals first
     | (case rel=>exact ⟨j,by have:=HC.out;omega,rfl,_,HFIN.out.drew.drew,HKF.out.drew.drew,HO3.out⟩)
     | (case measure=>simp [intOf];have:=HC.out;omega)
set_option maxHeartbeats 2000000 in
set_option maxRecDepth 100000 in
theorem pack_some (b o c n:Nat) (fs:List (Nat×Int)) (hn:fs.length=n) (w:World) (hl:n≤16777216)
  (h1:∀i,i<n→w.cell? ⟨b,o+i * 2,none⟩=some (.int .u64 ((fs.getD i (0,0)).1:Int))∧w.cell? ⟨b,o+i * 2+1,none⟩=some (.int .i64 (fs.getD i (0,0)).2)∧(fs.getD i (0,0)).1<18446744073709551616):
  Calls Tryz.prog 196 #[.slice (some ⟨b,o,none⟩) n c] w fun e w'=>e=.returned (.tuple #[.string (pkS fs),.int .i64 (pkE fs)])∧Below w.heap.size w w':=by
 have HN:Hid (fs.length=n):=hn;clear hn;go_enter Tryz.func196,Tryz.ntmps196;go_wp2_with fail
 refine (new_any w).mono ?_;rintro e w1 ⟨rfl,rfl⟩;go_wp2_with fail
 go_loopw [11] (fun i wr=>∃k:Nat,k≤n∧i=.int .i64 (k:Int)∧(∀f∈fs.take k,okF f=true)∧Below w.heap.size w wr∧w.heap.size+1≤wr.heap.size∧∃x,Wr (w.heap.size+1) wr w.heap.size (bitsF (fs.take k)) x) (fun i _=>n - (intOf i).toNat)
 case atStart=>exact ⟨0,by omega,rfl,by simp,below1 _ _,by simp,_,Wr.new w⟩
 case round=>
  obtain ⟨k,hk,rfl,hok,hb,hsz,x,hw⟩:=hrel;have HB:Hid (Below w.heap.size w wr):=hb;have HW:Hid (Wr (w.heap.size+1) wr w.heap.size (bitsF (fs.take k)) x):=hw;have HOK:Hid (∀f∈fs.take k,okF f=true):=hok;clear hw hok;by_cases hkn:k<n
  ·obtain ⟨c0,c1,hv64⟩:=h1 k hkn;have c0:=cell_later hb c0;have c1:=cell_later hb c1;have i1:(0:Int)≤(k:Int):=by omega
   have i2:(k:Int)<(n:Int):=by omega
   have HS:Hid (fs.take (k+1)=fs.take k++[fs.getD k (0,0)]):=take_snoc fs k (0,0) (by rw [HN.out];exact hkn);have HF:Hid (okF (fs.getD k (0,0))=false→fs.all okF=false):=all_take okF fs k (0,0) (by rw [HN.out];exact hkn)
   have hlen:Hid ((bitsF (fs.take k)).length≤64 * k):=by
    have:=bitsF_le _ HOK.out;rw [List.length_take] at this;unfold Hid;omega
   obtain ⟨v,d,evd⟩:∃v d,fs.getD k (0,0)=(v,d):=⟨_,_,rfl⟩;rw [evd] at c0 c1 hv64 HS HF;clear h1 evd hb
   cases hf:okF (v,d) with
   | true=>
    obtain ⟨d1,d2,d3⟩:=okF_width hf;obtain ⟨q,rfl⟩:∃q:Nat,d=(q:Int):=⟨d.toNat,by omega⟩;have HP:=fun o=>put_yes (w.heap.size+1) w.heap.size v q (bitsF (fs.take k)) x (wr.alloc o) (by omega) (by omega) (by simpa using d3) (by simp;omega) (HW.out.alloc o) (by have:=hlen.out;omega)
    have HP':Hid _:=HP;have HFT:Hid (okF (v,(q:Int))=true):=hf;clear HP hf d3;go_wp2_with fail
    refine (HP'.out _).mono ?_;rintro e w2 ⟨rfl,x',hw2,hkp,_⟩;have HW2:Hid (Wr (w.heap.size+1) w2 w.heap.size (bitsF (fs.take k)++bo v q) x'):=hw2;have HK2:Hid (Kept (Fw w.heap.size x) (wr.alloc (.cells #[.int .u64 (v:Int),.int .i64 (q:Int)] 162)) w2):=hkp;clear hw2 hkp HP';go_wp2_with fail
    go_roundw
    case rel=>
     have hb2:=(HW.out.alloc _).below HK2.out (Nat.le_refl _);refine ⟨k+1,by omega,by go_num,?_,(Below.more HB.out _).trans hb2,by have:=HK2.out.size;simp at this;omega,x',?_⟩
     ·rw [HS.out];intro f hf;rcases List.mem_append.1 hf with hf | hf
      ·exact HOK.out f hf
      ·simp at hf;subst hf;exact HFT.out
     ·rw [HS.out,bitsF_append];have e:bitsF [(v,(q:Int))]=bo v q:=by simp [bitsF]
      rw [e];exact HW2.out
    case measure=>simp [intOf];omega
   | false=>
    have HP:=fun w0=>put_no w.heap.size v d w0 hv64 hf
    have HP':Hid _:=HP;have hall:Hid (fs.all okF=false):=HF.out hf;clear HP hf;go_wp2_with fail
    refine (HP'.out _).mono ?_;rintro e w2 ⟨rfl,rfl⟩;go_wp2_with fail
    go_ret2
    exact ⟨by simp [pkS,pkE,hall.out];rfl,Below.more HB.out _⟩
  ·have hkn':decide ((k:Int)<(n:Int))=false:=by simp;omega
   have e:fs.take k=fs:=List.take_of_length_le (by rw [HN.out];omega);have HE:Hid (fs.take k=fs):=e;clear e hb h1;go_wp2_with fail
   refine (bytes_any _ _ _ _ _ HW.out).mono ?_;rintro e w2 ⟨rfl,rfl⟩;go_wp2_with fail
   go_ret2
   have hall:fs.all okF=true:=by
    rw [List.all_eq_true];intro f hf;exact HOK.out f (by rw [HE.out];exact hf)
   exact ⟨by simp [pkS,pkE,hall,HE.out],HB.out⟩
set_option maxHeartbeats 2000000 in
set_option maxRecDepth 100000 in
theorem pack_none (a:Option Addr) (c:Nat) (w:World):
  Calls Tryz.prog 196 #[.slice a 0 c] w fun e w'=>e=.returned (.tuple #[.string (pkS []),.int .i64 (pkE [])])∧Below w.heap.size w w':=by
 go_enter Tryz.func196,Tryz.ntmps196;go_wp2_with fail
 refine (new_any w).mono ?_;rintro e w1 ⟨rfl,rfl⟩;go_wp2_with fail
 refine wp_loop_rounds 1 ?_;rw [rounds_succ];go_wp2_with fail
 refine (bytes_any _ _ _ _ _ (Wr.new w)).mono ?_;rintro e w2 ⟨rfl,rfl⟩;go_wp2_with fail
 go_ret2
 exact ⟨rfl,below1 _ _⟩
theorem pack_any (a:Option Addr) (c n:Nat) (fs:List (Nat×Int)) (hn:fs.length=n) (w:World) (hl:n≤16777216) (h:RdF w a fs):
  Calls Tryz.prog 196 #[.slice a n c] w fun e w'=>e=.returned (.tuple #[.string (pkS fs),.int .i64 (pkE fs)])∧Below w.heap.size w w':=by
 subst hn;by_cases h0:fs=[]
 ·subst h0;exact pack_none a c w
 ·obtain ⟨b,o,rfl,k1⟩:=h.spot h0;exact pack_some b o c fs.length fs rfl w hl k1
end Go.Proofs.YtoimkngkcliinaaGreatDoor.Bt
