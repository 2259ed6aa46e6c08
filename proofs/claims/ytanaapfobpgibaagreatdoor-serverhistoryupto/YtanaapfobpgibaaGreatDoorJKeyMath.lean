/- OpenRs, KeyMath, KeyA, KeyB, KeyF, KeyD, OpenHi, joined. -/
import Derived.Test.YtanaapfobpgibaaGreatDoorJRsI
import Derived.Lib.SmallJoins
import Derived.Deep.SlicePairs
import Derived.Test.YtanaapfobpgibaaGreatDoorRows
open Go.Proofs.Tryz
namespace Go.Proofs.YtanaapfobpgibaaGreatDoor.Rs
open Go.ChangeShapes Go.WideShapes Go.ChangeAt Go.RowKit Go.Joins Go.Deep
set_option linter.unusedVariables false
set_option maxRecDepth 20000
set_option linter.unusedSimpArgs false
theorem add_plain (b o i:Nat):(⟨b,o,none⟩:Addr).add i=⟨b,o+i,none⟩:=by unfold Addr.add;split <;> simp_all
section
variable {H:Type} {enc:TypeId×Value→H} {W:World} {base:Nat} {spare:Nat→Bool} {held:Bool}
theorem C_ {fuel:Nat} {cs:List Value} {x:DataW H×List MemPlace} (hs:∀es sp,x.1=.slice es sp→(es.length+sp.length) * 8≤reachBytes) (hf:DataW.trod enc prog W base spare held fuel 41 cs=some x):
  ∃(a:Option Addr) (cap:Nat) (ws:List Int),cs=[.slice a ws.length cap]∧bM W a ws∧ws.length * 8≤140737488351232:=by
 rcases open_ints underlying41 underlying3 (by kernel_rfl) hf with ⟨rfl,_⟩ | ⟨a,len,cap,zs,rfl,_,hl,_,hm,hx,hc,_⟩
 ·exact ⟨none,0,[],rfl,bM.nil _ _,by simp⟩
 ·have BM:len≤zs.length:=by rw [hm];split <;> omega
  have hlen:(zs.take len).length=len:=by rw [List.length_take];omega
  refine ⟨some a,cap,zs.take len,by rw [hlen],fun i hi=>?_,?_⟩
  ·have hi':i<len:=by rw [hlen] at hi;exact hi
   have c0:=hc i (by omega);obtain ⟨b,o,sp⟩:=a;have hsp:sp=none:=by simpa [Addr.add] using World.cell?_spot (hc 0 (by omega))
   subst hsp;have e:(zs.take len).getD i 0=zs.getD i 0:=by simp [hi']
   rw [e];rw [add_plain] at c0;exact ⟨b,o,rfl,c0⟩
  ·have h1:=hs (lits .i64 (zs.take len)) (lits .i64 (zs.drop len)) (by rw [hx]);simp [lits,reachBytes] at h1;rw [hlen];omega
end
end Go.Proofs.YtanaapfobpgibaaGreatDoor.Rs
namespace Go.Proofs.YtanaapfobpgibaaGreatDoor.Rt
open Go.RowKit
variable {b s:Int}
theorem aj {k:IntKind} {a:Int} (h:a=b):Ending.returned (.int k a)=.returned (.int k b):=by rw [h]
theorem ae {a b:Bool} (h:a=b):Ending.returned (.bool a)=.returned (.bool b):=by rw [h]
def Gd (b s:Int):Prop:=1≤b∧b≤65535∧0≤s∧s≤255
def gd (b s:Int):Bool:=decide (1≤b)&&(decide (b≤65535)&&(decide (0≤s)&&decide (s≤255)))
theorem sF (h:Gd b s):gd b s=true:=by simp [gd,h.1,h.2.1,h.2.2.1,h.2.2.2]
theorem WJ (h:¬Gd b s):gd b s=false:=by
 rw [Bool.eq_false_iff];intro hh;simp [gd] at hh;exact h hh
theorem aX (w:World) (o:Obj):Below w.heap.size w (w.alloc o):=(Below.refl _ _).alloc (Nat.le_refl _) _
theorem Below.more {w0 w:World} (h:Below w0.heap.size w0 w) (o:Obj):Below w0.heap.size w0 (w.alloc o):=h.alloc h.size _
theorem na (b s:Int) (h:Gd b s) (w:World):
  Calls prog 201 #[.agg #[.int .i64 b,.int .i64 s]] w fun e w'=>e=.returned (.bool true)∧w'=w.alloc (.cells #[.int .i64 b,.int .i64 s] 31):=by
 obtain ⟨h1,h2,h3,h4⟩:=h;go_enter func201,ntmps201;go_wp2
 go_ret;exact ⟨rfl,rfl⟩
theorem UI (b s:Int) (h:¬Gd b s) (w:World):
  Calls prog 201 #[.agg #[.int .i64 b,.int .i64 s]] w fun e w'=>e=.returned (.bool false)∧w'=w.alloc (.cells #[.int .i64 b,.int .i64 s] 31):=by
 by_cases h1:1≤b
 ·by_cases h2:b≤65535
  ·by_cases h3:0≤s
   ·have h4:decide (s≤255)=false:=by unfold Gd at h;simp;omega
    clear h;go_enter func201,ntmps201;go_wp2
    go_ret;exact ⟨ae (by first | rfl | exact h4),rfl⟩
   ·clear h;go_enter func201,ntmps201;go_wp2
    go_ret;exact ⟨rfl,rfl⟩
  ·clear h;go_enter func201,ntmps201;go_wp2
   go_ret;exact ⟨rfl,rfl⟩
 ·clear h;go_enter func201,ntmps201;go_wp2
  go_ret;exact ⟨rfl,rfl⟩
theorem qG (b s:Int) (w:World):
  Calls prog 201 #[.agg #[.int .i64 b,.int .i64 s]] w fun e w'=>e=.returned (.bool (gd b s))∧w'=w.alloc (.cells #[.int .i64 b,.int .i64 s] 31):=by
 by_cases h:Gd b s
 ·rw [sF h];exact na b s h w
 ·rw [WJ h];exact UI b s h w
theorem kL (b s:Int) (h:Gd b s) (w:World):
  Calls prog 95 #[.agg #[.int .i64 b,.int .i64 s]] w fun e w'=>e=.returned (.bool true)∧w'=w.alloc (.cells #[.int .i64 b,.int .i64 s] 31):=by
 obtain ⟨h1,h2,h3,h4⟩:=h;go_enter func95,ntmps95;go_wp2
 go_ret;exact ⟨rfl,rfl⟩
theorem vH (b s:Int) (h:¬Gd b s) (w:World):
  Calls prog 95 #[.agg #[.int .i64 b,.int .i64 s]] w fun e w'=>e=.returned (.bool false)∧w'=w.alloc (.cells #[.int .i64 b,.int .i64 s] 31):=by
 by_cases h1:1≤b
 ·by_cases h2:b≤65535
  ·by_cases h3:0≤s
   ·have h4:decide (s≤255)=false:=by unfold Gd at h;simp;omega
    clear h;go_enter func95,ntmps95;go_wp2
    go_ret;exact ⟨ae (by first | rfl | exact h4),rfl⟩
   ·clear h;go_enter func95,ntmps95;go_wp2
    go_ret;exact ⟨rfl,rfl⟩
  ·clear h;go_enter func95,ntmps95;go_wp2
   go_ret;exact ⟨rfl,rfl⟩
 ·clear h;go_enter func95,ntmps95;go_wp2
  go_ret;exact ⟨rfl,rfl⟩
theorem rX (b s:Int) (w:World):
  Calls prog 95 #[.agg #[.int .i64 b,.int .i64 s]] w fun e w'=>e=.returned (.bool (gd b s))∧w'=w.alloc (.cells #[.int .i64 b,.int .i64 s] 31):=by
 by_cases h:Gd b s
 ·rw [sF h];exact kL b s h w
 ·rw [WJ h];exact vH b s h w
theorem zA (b s n:Int) (h:Gd b s) (hn:n<0∨255 - s<n) (w:World):
  Calls prog 148 #[.agg #[.int .i64 b,.int .i64 s],.int .i64 n] w fun e w'=>e=.returned (.tuple #[.agg #[.int .i64 0,.int .i64 0],.int .i64 4])∧Below w.heap.size w w':=by
 have h4:=h.2.2.2;have h3:=h.2.2.1;by_cases h0:n<0
 ·go_enter func148,ntmps148;go_wp2_with (go_at_call 201;refine (na _ _ h _).mono ?_;rintro e w' ⟨rfl,rfl⟩)
  exact bodyPost_ret (v:=.tuple #[.agg #[.int .i64 0,.int .i64 0],.int .i64 4]) (by simp [results,results148,go_sem]) rfl ⟨rfl,Below.more (Below.more (aX _ _) _) _⟩
 ·have h1:255 - s<n:=by omega
  clear hn;go_enter func148,ntmps148;go_wp2_with (go_at_call 201;refine (na _ _ h _).mono ?_;rintro e w' ⟨rfl,rfl⟩)
  exact bodyPost_ret (v:=.tuple #[.agg #[.int .i64 0,.int .i64 0],.int .i64 4]) (by simp [results,results148,go_sem]) rfl ⟨rfl,Below.more (Below.more (aX _ _) _) _⟩
theorem zz (b s n:Int) (h:Gd b s) (h0:0≤n) (h1:n≤255 - s) (w:World):
  Calls prog 148 #[.agg #[.int .i64 b,.int .i64 s],.int .i64 n] w fun e w'=>e=.returned (.tuple #[.agg #[.int .i64 b,.int .i64 (s+n)],.int .i64 0])∧Below w.heap.size w w':=by
 have h4:=h.2.2.2;have h3:=h.2.2.1;go_enter func148,ntmps148;go_wp2_with (go_at_call 201;refine (na _ _ h _).mono ?_;rintro e w' ⟨rfl,rfl⟩)
 exact bodyPost_ret (v:=.tuple #[.agg #[.int .i64 b,.int .i64 (s+n)],.int .i64 0]) (by simp [results,results148,go_sem]) rfl ⟨rfl,Below.more (Below.more (aX _ _) _) _⟩
theorem XV (b s n:Int) (h:¬Gd b s) (w:World):
  Calls prog 84 #[.agg #[.int .i64 b,.int .i64 s],.int .i64 n] w fun e w'=>e=.returned (.tuple #[.agg #[.int .i64 0,.int .i64 0],.int .i64 3])∧Below w.heap.size w w':=by
 go_enter func84,ntmps84;go_wp2_with (go_at_call 95;refine (vH _ _ h _).mono ?_;rintro e w' ⟨rfl,rfl⟩)
 exact bodyPost_ret (v:=.tuple #[.agg #[.int .i64 0,.int .i64 0],.int .i64 3]) (by simp [results,results84,go_sem]) rfl ⟨rfl,Below.more (Below.more (aX _ _) _) _⟩
theorem Fu (b s n:Int) (h:Gd b s) (hn:n<0∨255<n) (w:World):
  Calls prog 84 #[.agg #[.int .i64 b,.int .i64 s],.int .i64 n] w fun e w'=>e=.returned (.tuple #[.agg #[.int .i64 0,.int .i64 0],.int .i64 4])∧Below w.heap.size w w':=by
 by_cases h0:n<0
 ·clear hn;go_enter func84,ntmps84;go_wp2_with (go_at_call 95;refine (kL _ _ h _).mono ?_;rintro e w' ⟨rfl,rfl⟩)
  exact bodyPost_ret (v:=.tuple #[.agg #[.int .i64 0,.int .i64 0],.int .i64 4]) (by simp [results,results84,go_sem]) rfl ⟨rfl,Below.more (Below.more (aX _ _) _) _⟩
 ·have h1:255<n:=by omega
  clear hn;go_enter func84,ntmps84;go_wp2_with (go_at_call 95;refine (kL _ _ h _).mono ?_;rintro e w' ⟨rfl,rfl⟩)
  exact bodyPost_ret (v:=.tuple #[.agg #[.int .i64 0,.int .i64 0],.int .i64 4]) (by simp [results,results84,go_sem]) rfl ⟨rfl,Below.more (Below.more (aX _ _) _) _⟩
set_option maxHeartbeats 1000000 in
theorem yP (b s n:Int) (h:Gd b s) (h0:0≤n) (h1:n≤255) (w:World):
  Calls prog 84 #[.agg #[.int .i64 b,.int .i64 s],.int .i64 n] w fun e w'=>(if s+n≤255 then e=.returned (.tuple #[.agg #[.int .i64 b,.int .i64 (s+n)],.int .i64 0]) else e=.returned (.tuple #[.agg #[.int .i64 0,.int .i64 0],.int .i64 4]))∧Below w.heap.size w w':=by
 have h4:=h.2.2.2;have h3:=h.2.2.1;go_enter func84,ntmps84;go_wp2_with (go_at_call 95;refine (kL _ _ h _).mono ?_;rintro e w' ⟨rfl,rfl⟩)
 go_loopw [6] (fun i wr=>∃k:Int,0≤k∧k≤n∧i=.int .i64 k∧wr=((w.alloc (.cells #[.int .i64 b,.int .i64 (s+k)] 31)).alloc (.cells #[.int .i64 0,.int .i64 0] 31)).alloc (.cells #[.int .i64 b,.int .i64 s] 31)) (fun i _=>(n - intOf i).toNat)
 case atStart=>exact ⟨0,by omega,by omega,rfl,by simp⟩
 case round=>
  obtain ⟨k,IP,mj,rfl,rfl⟩:=hrel;by_cases hk:k<n
  ·go_wp2
   go_roundw
   case rel=>exact ⟨k+1,by omega,by omega,by go_num,by simp [Int.add_assoc]⟩
   case measure=>simp [intOf];omega
  ·obtain rfl:k=n:=by omega
   by_cases hg:s+k≤255
   ·have hG:Gd b (s+k):=⟨h.1,h.2.1,by omega,hg⟩;go_wp2_with (go_at_call 95;refine (kL _ _ hG _).mono ?_;rintro e w' ⟨rfl,rfl⟩)
    exact bodyPost_ret (v:=.tuple #[.agg #[.int .i64 b,.int .i64 (s+k)],.int .i64 0]) (by simp [results,results84,go_sem]) rfl ⟨by first | rfl | rw [if_pos hg],Below.more (Below.more (Below.more (aX _ _) _) _) _⟩
   ·have hG:¬Gd b (s+k):=fun hh=>hg hh.2.2.2
    go_wp2_with (go_at_call 95;refine (vH _ _ hG _).mono ?_;rintro e w' ⟨rfl,rfl⟩)
    exact bodyPost_ret (v:=.tuple #[.agg #[.int .i64 0,.int .i64 0],.int .i64 4]) (by simp [results,results84,go_sem]) rfl ⟨by first | rfl | rw [if_neg hg],Below.more (Below.more (Below.more (aX _ _) _) _) _⟩
theorem Du (a b c d:Int) (h:Gd a b) (k:Gd c d) (w:World):
  Calls prog 204 #[.agg #[.int .i64 a,.int .i64 b,.int .i64 c,.int .i64 d]] w fun e w'=>e=.returned (.bool true)∧w'=((w.alloc (.cells #[.int .i64 a,.int .i64 b,.int .i64 c,.int .i64 d] 61)).alloc (.cells #[.int .i64 a,.int .i64 b] 31)).alloc (.cells #[.int .i64 c,.int .i64 d] 31):=by
 have hg:=sF h;have hk:=sF k;go_enter func204,ntmps204;go_wp2_with (go_at_call 201;refine (qG _ _ _).mono ?_;rintro e w' ⟨rfl,rfl⟩)
 go_ret;exact ⟨rfl,rfl⟩
theorem Nk (a b c d:Int) (h:Gd a b) (k:Gd c d) (w:World):
  Calls prog 150 #[.agg #[.int .i64 a,.int .i64 b],.agg #[.int .i64 c,.int .i64 d]] w fun e w'=>e=.returned (.tuple #[.agg #[.int .i64 a,.int .i64 b,.int .i64 c,.int .i64 d],.int .i64 0])∧Below w.heap.size w w':=by
 go_enter func150,ntmps150;go_wp2_with fail
 refine (Du a b c d h k _).mono ?_;rintro e w' ⟨rfl,rfl⟩;go_wp2
 exact bodyPost_ret (v:=.tuple #[.agg #[.int .i64 a,.int .i64 b,.int .i64 c,.int .i64 d],.int .i64 0]) (by simp [results,results150,go_sem]) rfl ⟨rfl,Below.more (Below.more (Below.more (Below.more (Below.more (Below.more (aX _ _) _) _) _) _) _) _⟩
theorem aaM (b s:Int) (h1:0≤b) (h2:b≤65535) (h3:0≤s) (h4:s≤255):bits .or .u32 (b * 256) s=b * 256+s:=by
 rw [u32_or _ _ (by omega) (by omega) (by omega) (by omega),nat_join 8 _ _ (by omega) (by omega)];omega
theorem vX (b s:Int) (h:Gd b s) (w:World):
  Calls prog 227 #[.agg #[.int .i64 b,.int .i64 s]] w fun e w'=>e=.returned (.tuple #[.int .u32 (b * 256+s),.int .i64 0])∧w'=(w.alloc (.cells #[.int .i64 b,.int .i64 s] 31)).alloc (.cells #[.int .i64 b,.int .i64 s] 31):=by
 obtain ⟨h1,h2,h3,h4⟩:=id h;have ho:=aaM b s (by omega) h2 h3 h4;go_enter func227,ntmps227;go_wp2_with (go_at_call 201;refine (na _ _ h _).mono ?_;rintro e w' ⟨rfl,rfl⟩)
 go_ret2
 exact ⟨rfl,rfl⟩
end Go.Proofs.YtanaapfobpgibaaGreatDoor.Rt
namespace Go.Proofs.YtanaapfobpgibaaGreatDoor
open Go.ChangeShapes Go.WideShapes Go.ChangeAt Go.RowKit Go.Joins Go.Deep
open Rs (bM)
set_option linter.unusedVariables false
set_option maxRecDepth 4000
set_option linter.unusedSimpArgs false
variable {H:Type}
theorem Q9 (d:DataW H):1≤Rows.uptoBulk d:=by
 cases d with
 | lit l=>cases l <;> simp [Rows.uptoBulk]
 | _=>simp [Rows.uptoBulk]
theorem xj {H:Type}:∀es:List (DataW H),es.length≤Rows.uptoBulkAll es
 | []=>Nat.le_refl _
 | d::r=>by
  have h1:=Q9 d;have h2:=xj r;rw [List.length_cons,Rows.uptoBulkAll];omega
theorem xi {H:Type} {d:DataW H}:∀{es:List (DataW H)},d∈es→Rows.uptoBulk d≤Rows.uptoBulkAll es
 | x::r,h=>by
  rw [Rows.uptoBulkAll];rcases List.mem_cons.1 h with rfl | h
  ·omega
  ·have:=xi h;omega
theorem xh {d:DataW H} {es sp:List (DataW H)} (e:d=.slice es sp) (h:Rows.uptoBulk d≤1048576):es.length+sp.length≤1048576∧∀x∈es,Rows.uptoBulk x≤1048576:=by
 subst e;rw [Rows.uptoBulk] at h;have h1:=xj es;have h2:=xj sp;exact ⟨by omega,fun x hx=>by have:=xi hx;omega⟩
theorem xl {es:List (DataW H)} (h:Rows.uptoBulk (.agg es)≤1048576):∀x∈es,Rows.uptoBulk x≤1048576:=fun x hx=>by
 rw [Rows.uptoBulk] at h;have:=xi hx;omega
theorem xk {d:DataW H} (h:Rows.uptoBulk d≤1048576):∀es sp,d=.slice es sp→(es.length+sp.length) * 8≤reachBytes:=fun es sp e=>by
 have:=(xh e h).1;unfold reachBytes;omega
theorem aaO:prog.cellsOf 3=1:=by kernel_rfl
theorem aaN:prog.cellsOf 41=1:=by kernel_rfl
theorem aay:prog.cellsOf 43=2:=by kernel_rfl
theorem abC:prog.cellsOf 45=4:=by kernel_rfl
/- A step that may be cut. -/
abbrev xw:=(List Int×List Int)×(Int×Int)
abbrev hs0:xw:=(([],[]),(0,0))
def RdH (w:World) (a:Option Addr) (l:List xw):Prop:=
 ∀i,i<l.length→∃b o aL cL aJ cJ,a=some ⟨b,o,none⟩∧w.cell? ⟨b,o+i * 4,none⟩=some (.slice aL (l.getD i hs0).1.1.length cL)∧w.cell? ⟨b,o+i * 4+1,none⟩=some (.slice aJ (l.getD i hs0).1.2.length cJ)∧
  w.cell? ⟨b,o+i * 4+2,none⟩=some (.int .i64 (l.getD i hs0).2.1)∧w.cell? ⟨b,o+i * 4+3,none⟩=some (.int .i64 (l.getD i hs0).2.2)∧bM w aL (l.getD i hs0).1.1∧bM w aJ (l.getD i hs0).1.2
def OkH (p:xw):Prop:=p.1.1.length≤17592186044416∧p.1.2.length≤17592186044416∧(Lit.int .i64 p.2.1).wf=true∧(Lit.int .i64 p.2.2).wf=true
theorem M7 {enc:TypeId×Value→H} {W:World} {base:Nat} {spare:Nat→Bool} {held:Bool} {v:Value} {d:DataW H} {ps:List MemPlace} (hs:Rows.uptoBulk d≤1048576)
  (hv:∃a len cap,v=.slice a len cap) (h:DataW.Trod enc prog W base spare held 22 v d ps):
  ∃(a:Option Addr) (cap:Nat) (l:List xw),v=.slice a l.length cap∧RdH W a l∧l.length≤1048576∧∀p∈l,OkH p:=by
 obtain ⟨a0,O1,jG,rfl⟩:=hv;obtain ⟨fuel,hf⟩:=h;rcases open_slice underlying22 hf with ⟨hcs,_⟩ | ⟨a,len,cap,m,n,D,Pl,hcs,_,hl,_,hm,hx,hc⟩
 ·simp [Value.cells] at hcs;obtain ⟨rfl,rfl,rfl⟩:=hcs;exact ⟨none,0,[],rfl,(fun i hi=>by cases hi),by simp,fun _ h=>by cases h⟩
 ·simp [Value.cells] at hcs;obtain ⟨rfl,rfl,rfl⟩:=hcs;simp only [Prod.mk.injEq] at hx;have BM:O1≤m:=by rw [hm];split <;> omega
  obtain ⟨hb1,hb2⟩:=xh hx.1 hs
  have each:∀i,i<O1→∃p:xw,(∃aL cL aJ cJ,W.cell? (a.add (i * 4))=some (.slice aL p.1.1.length cL)∧W.cell? (a.add (i * 4+1))=some (.slice aJ p.1.2.length cJ)∧W.cell? (a.add (i * 4+2))=some (.int .i64 p.2.1)∧W.cell? (a.add (i * 4+3))=some (.int .i64 p.2.2)∧bM W aL p.1.1∧bM W aJ p.1.2)∧OkH p:=fun i hi=>by
   have hbi:=hb2 (D i) (List.mem_map.2 ⟨i,List.mem_range.2 hi,rfl⟩);obtain ⟨cs',h1,h2⟩:=hc i (by omega);rw [abC] at h1;obtain ⟨_,hlen,hcell⟩:=World.cells?_some h1;obtain ⟨xs,k,hk,AG,_,hxl,hf⟩:=DataW.trod_struct underlying45 h2
   match xs,hxl,cs',hlen with
   | [y0,y1,y2],_,[v0,v1,v2,v3],_=>
    have g0:=hf 0 _ rfl;have g1:=hf 1 _ rfl;have g2:=hf 2 _ rfl;simp [aaO,aay] at g0 g1 g2;have e0:=hcell 0 (by omega);have e1:=hcell 1 (by omega);have e2:=hcell 2 (by omega);have e3:=hcell 3 (by omega);rw [add_add] at e0 e1 e2 e3;have hD:D i=.agg [y0.1,y1.1,y2.1]:=(Prod.mk.inj AG).1;rw [hD] at hbi;have Qe:=xl hbi y0.1 (.head _);obtain ⟨xs2,k2,hk2,acS,_,acT,hf2⟩:=DataW.trod_struct underlying43 g0
    match xs2,acT with
    | [z0,z1],_=>
     have g3:=hf2 0 _ rfl;have g4:=hf2 1 _ rfl;simp [aaN] at g3 g4;rw [acS] at Qe;obtain ⟨aL,cL,L,q0,r0,l0⟩:=Rs.C_ (x:=z0) (xk (xl Qe z0.1 (.head _))) g3;obtain ⟨aJ,cJ,J,q1,r1,l1⟩:=Rs.C_ (x:=z1) (xk (xl Qe z1.1 (.tail _ (.head _)))) g4;obtain ⟨y,q2,_,wy⟩:=DataW.trod_int underlying3 g1;obtain ⟨z,q3,_,wz⟩:=DataW.trod_int underlying3 g2;simp at q0 q1 q2 q3;subst q0 q1 q2 q3;exact ⟨((L,J),(y,z)),⟨aL,cL,aJ,cJ,by simpa using e0,by simpa using e1,by simpa using e2,by simpa using e3,r0,r1⟩,by dsimp only;omega,by dsimp only;omega,wy,wz⟩
  obtain ⟨q,hq⟩:=choose_lt each;refine ⟨some a,jG,(List.range O1).map q,by simp,fun i hi=>?_,?_,?_⟩
  ·have hi':i<O1:=by simpa using hi
   obtain ⟨⟨aL,cL,aJ,cJ,c0,c1,c2,c3,r0,r1⟩,_⟩:=hq i hi';obtain ⟨⟨_,_,_,_,c00,_⟩,_⟩:=hq 0 (by omega);obtain ⟨b,o,sp⟩:=a;have hsp:sp=none:=by simpa [Addr.add] using World.cell?_spot c00
   subst hsp;have e:((List.range O1).map q).getD i hs0=q i:=by simp [hi']
   rw [e];rw [Rs.add_plain] at c0 c1 c2 c3;exact ⟨b,o,aL,cL,aJ,cJ,rfl,c0,c1,c2,c3,r0,r1⟩
  ·simp only [List.length_map,List.length_range] at hb1 ⊢;omega
  ·intro p hp;simp only [List.mem_map,List.mem_range] at hp;obtain ⟨i,hi,rfl⟩:=hp;exact (hq i hi).2
end Go.Proofs.YtanaapfobpgibaaGreatDoor
