/- SvB, SvG, SvD0, SvD, SvH, SvI, joined. -/
import Derived.Test.YtoimkngkcliinaaGreatDoorJSvMath
import Derived.Test.YtoimkngkcliinaaGreatDoorJPwB0
import Derived.Test.YtoimkngkcliinaaGreatDoorJWiU
import Derived.Test.YtoimkngkcliinaaGreatDoorJWiY
namespace Go.Proofs.YtoimkngkcliinaaGreatDoor
open Go.RowKit Go.Maps
open Jr.Dk (Go1 Jn St Dk KeepT on_k)
set_option linter.unusedVariables false
set_option maxRecDepth 4000
set_option linter.unusedSimpArgs false
/- An error inside: none, or one that wraps a number. -/
def erv (e:Int) (x:ByteArray):Value:=if e=0 then .nilIface else .iface 253 (.agg #[.string x,.iface 198 (.agg #[.int .i64 e])])
theorem unless_any (e:Int) (x:ByteArray) (w:World):Calls Tryz.prog 82 #[.int .i64 e,.string x] w fun r w'=>r=.returned (erv e x)∧w'=w:=by
 unfold erv;by_cases h0:e=0
 ·subst h0;rw [if_pos rfl];go_enter Tryz.func82,Tryz.ntmps82;go_wp2
  go_ret;exact ⟨rfl,rfl⟩
 ·rw [if_neg h0];have hd:(e==0)=false:=by simpa using h0
  go_enter Tryz.func82,Tryz.ntmps82;go_wp2
  go_ret;exact ⟨rfl,rfl⟩
section
variable {N:Nat} {w0 w:World} {p S j:Nat} {s:St} {t:Tr} {d:Bool}
theorem tree_any (h:SvAt w S p j t d):Calls Tryz.prog 17 #[.pointer (some ⟨S,0,none⟩)] w fun e w'=>e=.returned (.agg (tcs t))∧Below w.heap.size w w':=by
 obtain ⟨c,hc⟩:∃c,tcs t=c:=⟨_,rfl⟩;have HC:Hid (tcs t=c):=hc;have hK:=TrAt.new w (tz 0);have hbK:=below_alloc w (.cells (tcs (tz 0)) 54);rw [←zero236] at hK hbK;have hS:=h.later hbK;obtain ⟨K,hKe⟩:∃K,w.heap.size=K:=⟨_,rfl⟩;have HKE:Hid (w.heap.size=K):=hKe;rw [hKe] at hK;have HB:Hid (Below w.heap.size w (w.alloc (.cells Tryz.zeroCells54 54))):=hbK;go_enter Tryz.func17,Tryz.ntmps17;go_upto_region 1 with (fail)
 try rw [hKe]
 clear h hKe hbK hc;generalize w.alloc (.cells Tryz.zeroCells54 54)=w1 at *;have HF:Hid (TrAt (w1.setRow K c) K t∧Below w.heap.size w (w1.setRow K c)):=⟨by rw [←HC.out];exact hK.row t,Rt.setRow_below (by have:=HKE.out;omega) HB.out _⟩;go_wp2_with (first | (show wpList _ _ _ ({dst:=_,op:=Op.load 54 _,type:=_,pos:=_,after:=_,guard:=_}::_) _ _;refine rdS hS HC.out _ rfl rfl rfl ?_) | (show wpList _ _ _ ({dst:=_,op:=Op.store 54 _ _,type:=_,pos:=_,after:=_,guard:=_}::_) _ _;refine stTc hK HC.out rfl _ _ rfl rfl rfl ?_))
 refine bodyPost_ret (results_tr rfl _ _ K t rfl HF.out.1) rfl ?_;exact ⟨rfl,HF.out.2⟩
theorem down_any (hg:Go1 N w0 w p s) (h:SvAt w S p j t d):Calls Tryz.prog 18 #[.pointer (some ⟨S,0,none⟩)] w fun e w'=>e=.returned (.bool (d||decide (s.left=0)))∧w'=w:=by
 have hon:=on_k hg;obtain ⟨c0,c1,c2⟩:=h.cells;clear hg h
 cases d with
 | true=>
  go_enter Tryz.func18,Tryz.ntmps18;go_wp2_with fail
  go_ret;exact ⟨rfl,rfl⟩
 | false=>
  obtain ⟨b,hb⟩:∃b,decide (s.left≠0)=b:=⟨_,rfl⟩;have e:decide (s.left=0)= !b:=by rw [←hb];simp
  rw [hb] at hon;rw [e];clear e hb;go_enter Tryz.func18,Tryz.ntmps18;go_wp2_with fail
  refine hon.mono ?_;rintro e w ⟨rfl,rfl⟩;go_wp2_with fail
  go_ret;exact ⟨rfl,rfl⟩
theorem up_yes (hg:Go1 N w0 w p s) (h:SvAt w S p j t false) (h0:s.left≠0):Calls Tryz.prog 69 #[.pointer (some ⟨S,0,none⟩)] w fun e w'=>e=.returned .nilIface∧w'=w:=by
 have hd:=down_any hg h;rw [show (false||decide (s.left=0))=false by simp [h0]] at hd;clear hg h h0;go_enter Tryz.func69,Tryz.ntmps69;go_wp2_with fail
 refine hd.mono ?_;rintro e w ⟨rfl,rfl⟩;go_wp2_with fail
 go_ret;exact ⟨rfl,rfl⟩
end
open Go.RowKit Go.Extern.Stop Go.Stop Go.Extern
def Er (w:World):Prop:=w.cell? ⟨0,0,none⟩=some (.iface 312 (.agg #[.pointer (some ⟨5,143,none⟩)]))
theorem Er.later {w w':World} (h:Er w) (hb:Below w.heap.size w w'):Er w':=Rs.cell_later hb h
theorem ef_mKind (h:Value) (w:World):(Go.method 576 312 (.agg #[h]) "Kind").run Tryz.prog w=.ok (365,h) w:=by kernel_rfl
theorem ef_mElem (h:Value) (w:World):(Go.method 576 312 (.agg #[h]) "Elem").run Tryz.prog w=.ok (379,.agg #[h]) w:=by kernel_rfl
theorem ef_mImpl (h:Value) (w:World):(Go.method 576 312 (.agg #[h]) "Implements").run Tryz.prog w=.ok (380,.agg #[h]) w:=by kernel_rfl
set_option maxHeartbeats 4000000 in
theorem as_any (x:ByteArray) (e:Int) (R:Nat) (old:Value) (w:World) (hg:Er w) (ht0:w.cell? ⟨R,0,none⟩=some old) (hf0:w.frozen? ⟨R,0,none⟩=false):
  Calls Tryz.prog 84 #[.iface 253 (.agg #[.string x,.iface 198 (.agg #[.int .i64 e])]),.iface 200 (.pointer (some ⟨R,0,none⟩))] w
   fun ev w'=>ev=.returned (.bool true)∧∃W,Below w.heap.size w W∧w'=W.setCell ⟨R,0,none⟩ (.int .i64 e):=by
 have h3:= @run_callFunc_extern Tryz.prog 130 _ (fun args=>ReflectliteValue.unpack (args.getD 0 (.tuple #[]))) Tryz.func130 (by kernel_rfl) (by kernel_rfl) (by kernel_rfl) (by kernel_rfl);have h7:= @run_callFunc_extern Tryz.prog 131 _ (ReflectliteValue.methodAny (ReflectliteValue.valueError "reflectlite.Value.Type" 0) (fun t _ _ _=>ReflectliteType.toType t)) Tryz.func131 (by kernel_rfl) (by kernel_rfl) (by kernel_rfl) (by kernel_rfl);have h8:= @run_callFunc_extern Tryz.prog 132 _ (ReflectliteValue.method (ReflectliteValue.valueError "reflectlite.Value.IsNil" 0) ReflectliteValue.isNil) Tryz.func132 (by kernel_rfl) (by kernel_rfl) (by kernel_rfl) (by kernel_rfl);have h27:= @run_callFunc_extern Tryz.prog 365 _ (ReflectliteType.abiMethod fun t=>do pure (.int .u8 (←Rtype.kind t))) Tryz.func365 (by kernel_rfl) (by kernel_rfl) (by kernel_rfl) (by kernel_rfl);have h37:= @run_callFunc_extern Tryz.prog 379 _ (ReflectliteType.method ReflectliteType.elem) Tryz.func379 (by kernel_rfl) (by kernel_rfl) (by kernel_rfl) (by kernel_rfl);have h38:= @run_callFunc_extern Tryz.prog 380 _ (ReflectliteType.relation "Implements" ReflectliteType.implements_) Tryz.func380 (by kernel_rfl) (by kernel_rfl) (by kernel_rfl) (by kernel_rfl);have f6:=ef_valueOfP;have f7:=ef_typeP;have mK:=ef_mKind;have mE:=ef_mElem;have mI:=ef_mImpl;have k1:=ef_kindP;have k2:=ef_kindR;have e1:=ef_elemP;have i1:=ef_impl;unfold Er at hg;have n8:=ef_isNilP ⟨w.heap.size,0,none⟩ ⟨R,0,none⟩ ((w.alloc (.cells #[.pointer (some ⟨R,0,none⟩)] 200)).alloc (.cells #[.pointer (some ⟨5,200,none⟩),.pointer (some ⟨w.heap.size,0,none⟩),.int .u64 150] 259)) (by simp);have hg2:=ca2 hg (.cells #[.pointer (some ⟨R,0,none⟩)] 200) (.cells #[.pointer (some ⟨5,200,none⟩),.pointer (some ⟨w.heap.size,0,none⟩),.int .u64 150] 259);have hc:=ca2 ht0 (.cells #[.pointer (some ⟨R,0,none⟩)] 200) (.cells #[.pointer (some ⟨5,200,none⟩),.pointer (some ⟨w.heap.size,0,none⟩),.int .u64 150] 259);have hf:=fa (fa hf0 ht0 (.cells #[.pointer (some ⟨R,0,none⟩)] 200)) (ca ht0 _) (.cells #[.pointer (some ⟨5,200,none⟩),.pointer (some ⟨w.heap.size,0,none⟩),.int .u64 150] 259);have ht:=as_two x e R w.heap.size old ((w.alloc (.cells #[.pointer (some ⟨R,0,none⟩)] 200)).alloc (.cells #[.pointer (some ⟨5,200,none⟩),.pointer (some ⟨w.heap.size,0,none⟩),.int .u64 150] 259)) (by simp) hc hf;clear hc hf ht0 hf0 hg;go_enter Tryz.func84,Tryz.ntmps84;go_wp2_with fail
 refine ht.mono ?_;rintro r w' ⟨rfl,rfl⟩;go_wp2_with fail
 go_ret;exact ⟨rfl,_,((((below_alloc w _).alloc (by simp) _).alloc (by simp;omega) _).alloc (by simp;omega) _).alloc (by simp;omega) _,rfl⟩
theorem number_any (e:Int) (x:ByteArray) (w:World) (hg:Er w):Calls Tryz.prog 54 #[erv e x] w fun r w'=>r=.returned (.int .i64 e)∧Below w.heap.size w w':=by
 unfold erv;by_cases h0:e=0
 ·subst h0;rw [if_pos rfl];have hn:=as_nil;go_enter Tryz.func54,Tryz.ntmps54;go_wp2_with fail
  refine (hn _ _).mono ?_;rintro r w' ⟨rfl,rfl⟩;go_wp2_with fail
  go_ret;exact ⟨rfl,below_alloc _ _⟩
 ·rw [if_neg h0];have hb:=below_alloc w (.cells #[.int .i64 0] 198);have ha:=as_any x e w.heap.size (.int .i64 0) (w.alloc (.cells #[.int .i64 0] 198)) (hg.later hb) (by simp) (by simp);clear hg h0;go_enter Tryz.func54,Tryz.ntmps54;go_wp2_with fail
  refine ha.mono ?_;rintro r w' ⟨rfl,W,hbW,rfl⟩;have hs:=hbW.size
  have hc:(W.setCell ⟨w.heap.size,0,none⟩ (.int .i64 e)).cell? ⟨w.heap.size,0,none⟩=some (.int .i64 e):=by
   have h1:W.heap[w.heap.size]? =some (.cells #[.int .i64 0] 198):=(hbW.block _ (by simp)).trans (heap_alloc_last w _);have h2:=Wi.row_set h1 0 (.int .i64 e);rw [cell_of_row _ _ _ _ _ _ h2];rfl
  have hb2:Below w.heap.size w (W.setCell ⟨w.heap.size,0,none⟩ (.int .i64 e)):=(hb.trans (hbW.mono hb.size)).setCell (p:=⟨w.heap.size,0,none⟩) (Nat.le_refl _) _;have HB2:Hid (Below w.heap.size w (W.setCell ⟨w.heap.size,0,none⟩ (.int .i64 e))):=hb2;clear ha hbW hs hb hb2;generalize W.setCell ⟨w.heap.size,0,none⟩ (.int .i64 e)=w2 at *;go_wp2_with fail
  go_ret;exact ⟨rfl,HB2.out⟩
open Go.RowKit Go.Great
set_option maxRecDepth 100000 in
theorem built_sv (p j:Nat) (t:Tr):Tryz.prog.built 137 [(0,.pointer (some ⟨p,0,none⟩)),(1,.pointer (some ⟨j,0,none⟩)),(2,.agg (tcs t))]=some (sva p j t false):=by kernel_rfl
/- All that there is of a step ahead of its being gone. -/
def stpl (t:Tr) (k b:ByteArray):List Value:=(tcs t).toList++[.string k,.string b]
def stpa (t:Tr) (k b:ByteArray):Array Value:=(stpl t k b).toArray
set_option maxRecDepth 100000 in
theorem built_st (t:Tr) (k b:ByteArray):Tryz.prog.built 202 [(0,.agg (tcs t)),(1,.string k),(2,.string b)]=some (stpa t k b):=by kernel_rfl
theorem built_st0:Tryz.prog.built 202 []=some (stpa (tz 0) ⟨#[]⟩ ⟨#[]⟩):=by kernel_rfl
theorem zero_st:Tryz.zeroCells202=stpa (tz 0) ⟨#[]⟩ ⟨#[]⟩:=by kernel_rfl
theorem infoStp:(Tryz.prog.info? 202).map (·.size)=some 238:=by kernel_rfl
open Go.RowKit Go.Maps Go.Great Rc
open Rs (Tb owns_slice)
open Jr.Dk (Go1 Jn St Hs KeepT RwS RdS opS opB scP scE row_spell)
/- What the library's variables hold. -/
structure Vs (w:World):Prop where
 tb:Tb w
 er:Er w
theorem Vs.later {w w':World} (h:Vs w) (hb:Below w.heap.size w w'):Vs w':=⟨h.tb.later hb,h.er.later hb⟩
theorem results_tt {fn:Func} {p q:Tmp} (hf:fn.results=#[.tmp p,.tmp q]) (tmps:Array Value) (W:World):(results fn tmps).run Tryz.prog W=.ok (.tuple #[tmps.getD p undef,tmps.getD q undef]) W:=by
 simp [results,hf]
theorem bSv {ops:Array Oper} {rest:List Oper} {o:Oper} {a:Act} {w:World} {Q:Exit→Act→World→Prop} {p j:Nat} {t:Tr} {ct c:Array Value} (ht:tcs t=ct) (hc:sva p j t false=c) (hg:o.guard=none) (x0 x1 x2:Operand) (ho:o.op=.build 137 #[(0,x0),(1,x1),(2,x2)])
  (h0:a.eval x0=.pointer (some ⟨p,0,none⟩)) (h1:a.eval x1=.pointer (some ⟨j,0,none⟩)) (h2:a.eval x2=.agg ct) (kk:wpList Tryz.prog ops Q rest (a.put o.dst (.agg c)) w):wpList Tryz.prog ops Q (o::rest) a w:=by
 subst ht hc;refine wpList_buildTo hg 137 _ ho _ rfl (sva p j t false) ?_ kk
 have e1:((#[(0,x0),(1,x1),(2,x2)]:Array (Nat×Operand)).map fun (i,x)=>(i,a.eval x)).toList=[(0,.pointer (some ⟨p,0,none⟩)),(1,.pointer (some ⟨j,0,none⟩)),(2,.agg (tcs t))]:=by
  simp [h0,h1,h2]
 exact (congrArg (Tryz.prog.built 137) e1).trans (built_sv p j t)
abbrev txDk:ByteArray:={data:=#[116,104,101,32,100,105,115,107]}
/- A server that was opened. -/
structure Opd (w0 w w':World) (p:Nat) (s:St) (S j:Nat) (t:Tr):Prop where
 go:Go1 w0.heap.size w0 w' p (opS s)
 jn:Jn w' j p (scP s).length (scE s) false
 sv:SvAt w' S p j t false
 jN:w0.heap.size≤j
 sN:w0.heap.size≤S
 kp:KeepT w w'
 kj:∀i q c a d,Jn w i q c a d→Jn w' i q c a d
theorem open_kj {N:Nat} {w0 w:World} {p:Nat} {s:St} (h:Go1 N w0 w p s) (hlog:s.log.length+2048≤5864062014805):
  Calls Tryz.prog 81 #[.pointer (some ⟨p,0,none⟩)] w fun e w'=>Go1 N w0 w' p (opS s)∧((opB s=false∧e=.returned (.tuple #[.pointer none,.slice none 0 0,.int .i64 11]))∨
  (opB s=true∧∃j v,e=.returned (.tuple #[.pointer (some ⟨j,0,none⟩),v,.int .i64 0])∧w.heap.size≤j∧Jn w' j p (scP s).length (scE s) false∧RwS w' w.heap.size v (scP s)))∧KeepT w w'∧∀j q c a d,Jn w j q c a d→Jn w' j q c a d:=by
 obtain ⟨⟨b,m,x,d⟩,h1,h2⟩:=h;refine (Jr.Dk.open_any N w p s b m x d hlog h2).mono ?_;rintro e w' ⟨hw,hr⟩;exact ⟨Jr.Dk.Go1.wrote ⟨⟨b,m,x,d⟩,h1,h2⟩ d hw,hr,hw.keepT d,fun j q c a dd hj=>Jr.Dk.keepJ d hw hj⟩
section
variable {w0 w:World} {p:Nat} {s:St}
set_option maxRecDepth 100000 in
set_option maxHeartbeats 1000000 in
theorem opened_ok (hV:Vs w0) (h:Go1 w0.heap.size w0 w p s) (hlog:s.log.length+2048≤5864062014805) (hb:opB s=true) {t:Tr} (hr:rpy stT (scP s)=some t) (hsz:∀X∈scP s,X.size≤5865):
  Calls Tryz.prog 53 #[.pointer (some ⟨p,0,none⟩)] w fun e w'=>∃S j,e=.returned (.tuple #[.pointer (some ⟨S,0,none⟩),.nilIface])∧Opd w0 w w' p s S j t:=by
 have ho:=open_kj h hlog;rw [hb] at ho;have hsc:=(Jr.Dk.sc_le s);obtain ⟨l,hl⟩:∃l,scP s=l:=⟨_,rfl⟩;have HNW:Hid (w0.heap.size≤w.heap.size):=h.size;rw [hl] at hr hsz hsc ho;have HLL:Hid (scP s=l):=hl;clear hb h hl;go_enter Tryz.func53,Tryz.ntmps53;go_wp2_with fail
 refine ho.mono ?_;rintro e w1 ⟨hg,(⟨h,-⟩ | ⟨-,j,v,rfl,hj,hjn,hrow⟩),hk,hkj⟩
 ·cases h
 ·obtain ⟨a,cap,rfl⟩:=row_spell hrow;have hrp:=replayed_any a cap l t w1 (hV.later (by exact hg.below)).tb hr (Jr.Dk.RwS.rd hrow) hsz (by omega);obtain ⟨ct,hct⟩:∃c,tcs t=c:=⟨_,rfl⟩;obtain ⟨cs,hcs⟩:∃c,sva p j t false=c:=⟨_,rfl⟩;rw [hct] at hrp;have HT:Hid (tcs t=ct):=hct;have HS:Hid (sva p j t false=cs):=hcs;have HG:Hid (Go1 w0.heap.size w0 w1 p (opS s)∧Jn w1 j p l.length (scE s) false∧KeepT w w1∧w0.heap.size≤j∧w0.heap.size≤w1.heap.size):=⟨hg,hjn,hk,Nat.le_trans HNW.out hj,hg.size⟩;have HKJ:Hid (∀i q c a d,Jn w i q c a d→Jn w1 i q c a d):=hkj;obtain ⟨n,hn⟩:∃n,l.length=n:=⟨_,rfl⟩;rw [hn] at hrp ⊢;clear hg hjn hk hkj hrow ho hct hcs hr hsz hsc hj hn hV;go_wp2_with fail
  refine hrp.mono ?_;rintro e w2 ⟨rfl,hb2⟩;obtain ⟨z1,W3,hW3,hT3,hB3⟩:=one_box w2 t ct HT.out;have HB3:Hid (Below w1.heap.size w1 W3):=hb2.trans (hB3.mono hb2.size);clear hrp hb2 hB3;go_upto_region 5 with (show wpList _ _ _ ({dst:=_,op:=Op.store 54 _ _,type:=_,pos:=_,after:=_,guard:=_}::_) _ _;refine stTc z1 HT.out rfl _ _ rfl rfl rfl ?_)
  try rw [hW3]
  clear z1 hW3;generalize w2.heap.size=B at *;go_wp2_with (first | (show wpList _ _ _ ({dst:=_,op:=Op.load 54 _,type:=_,pos:=_,after:=_,guard:=_}::_) _ _;refine rdT hT3 HT.out _ rfl rfl rfl ?_) | (show wpList _ _ _ ({dst:=_,op:=Op.build 137 _,type:=_,pos:=_,after:=_,guard:=_}::_) _ _;refine bSv HT.out HS.out rfl _ _ _ rfl rfl rfl rfl ?_))
  refine bodyPost_ret (results_tt rfl _ _) rfl ?_;have hbA:=below_alloc W3 (.cells cs 137);have hbW:=HB3.out.trans (hbA.mono HB3.out.size);obtain ⟨hg,hjn,hk,hjN,hw⟩:=HG.out;refine ⟨W3.heap.size,j,rfl,Jr.Dk.Go1.later hg hbW,?_,?_,hjN,Nat.le_trans hw HB3.out.size,hk.trans (KeepT.ofBelow hbW),fun i q c a d hi=>(HKJ.out i q c a d hi).later hbW⟩
  ·rw [HLL.out];exact hjn.later hbW
  ·rw [←HS.out];exact heap_alloc_last W3 _
theorem Opd.later {w0 w w' w2:World} {p:Nat} {s:St} {S j:Nat} {t:Tr} (h:Opd w0 w w' p s S j t) (hb:Below w'.heap.size w' w2):Opd w0 w w2 p s S j t:=
 ⟨h.go.later hb,h.jn.later hb,h.sv.later hb,h.jN,h.sN,h.kp.trans (KeepT.ofBelow hb),fun i q c a d hi=>(h.kj i q c a d hi).later hb⟩
theorem open_ok (hV:Vs w0) (h:Go1 w0.heap.size w0 w p s) (hlog:s.log.length+2048≤5864062014805) (hb:opB s=true) {t:Tr} (hr:rpy stT (scP s)=some t) (hsz:∀X∈scP s,X.size≤5865):
  Calls Tryz.prog 25 #[.pointer (some ⟨p,0,none⟩)] w fun e w'=>∃S j,e=.returned (.tuple #[.pointer (some ⟨S,0,none⟩),.int .i64 0])∧Opd w0 w w' p s S j t:=by
 have ho:=opened_ok hV h hlog hb hr hsz;clear h hlog hb hr hsz;go_enter Tryz.func25,Tryz.ntmps25;go_wp2_with fail
 refine ho.mono ?_;rintro e w1 ⟨S,j,rfl,hO⟩;have hn:=number_any 0 txDk w1 (hV.later hO.go.below).er;have HO:Hid (Opd w0 w w1 p s S j t):=hO;rw [show erv 0 txDk=.nilIface from rfl] at hn;clear hO ho;go_wp2_with fail
 refine hn.mono ?_;rintro e w2 ⟨rfl,hb2⟩;go_wp2_with fail
 refine bodyPost_ret (results_tt rfl _ _) rfl ?_;exact ⟨S,j,rfl,HO.out.later hb2⟩
end
open Rs (RdI ps Tb i64s owns_slice)
theorem isl_map (li:List It):isl li=(li.map itP).flatMap Wi.itl:=by
 unfold isl;rw [List.flatMap_map];rfl
theorem gM_R {r:Int×(List (Int×Int)×(List (Int×Int)×List ((Int×Int)×((Int×Int)×(Int×Int)))))} (h:Wi.gR r=true):Wi.gM (Wi.mR r)=true:=by
 unfold Wi.gM Wi.mR;rw [if_pos rfl];dsimp only;rw [h];rfl
/- A step's message as the wire's; its bytes. -/
def stM (t:Tr) (L J:List Int):Wi.Msg:=Wi.mR (rW (mS t (L,J)))
def msB (t:Tr) (L J:List Int):ByteArray:=Wi.enS (stM t L J)
theorem stM_good {t:Tr} {L J:List Int} (h0:plE t L J=0):Wi.gM (stM t L J)=true:=gM_R (step_good (plE_stp h0))
theorem mS_pn {t:Tr} {L J:List Int} (h0:plE t L J=0):mS t (L,J)=(pnP t L J,(pnL t L J,(pnJ t L J,pnI t L J))):=by
 unfold pnP pnL pnJ pnI mS;rw [if_pos h0,if_pos h0,if_pos h0,if_pos h0]
theorem next_mr {X Y:World} {t:Tr} {L J:List Int} {a1 a2 a3:Option Addr} {k1 k2 k3:Nat} (h0:plE t L J=0) (g1:Y.ownsRow X.heap.size 165 2 (.slice a1 (pnL t L J).length k1) (pnL t L J).length (ps (pnL t L J)))
  (g2:Y.ownsRow X.heap.size 165 2 (.slice a2 (pnJ t L J).length k2) (pnJ t L J).length (ps (pnJ t L J))) (g3:Y.ownsRow X.heap.size 121 6 (.slice a3 (pnI t L J).length k3) (pnI t L J).length (isl (pnI t L J))):Wi.MR Y (stM t L J) a1 a2 a3:=by
 have n:=Wi.mv_len (stM_good h0);have e:=mS_pn h0;unfold stM at n ⊢;rw [e] at n ⊢;refine ⟨Wi.rd_owns (f:=Wi.stl) (fun _=>rfl) g1,Wi.rd_owns (f:=Wi.stl) (fun _=>rfl) g2,?_,n.1,n.2.1,n.2.2.1,n.2.2.2⟩;have e3:((pnI t L J).map itP).length=(pnI t L J).length:=List.length_map ..;refine Wi.rd_owns (f:=Wi.itl) (l:=(pnI t L J).map itP) (b:=X.heap.size) (T:=121) (cap:=k3) (fun _=>rfl) ?_;rw [e3,←isl_map];exact g3
abbrev txBt:ByteArray:={data:=#[116,104,101,32,98,97,116,99,104]}
theorem stpa_size (t:Tr) (k b:ByteArray):(stpa t k b).size=238:=by
 have:=tcl_len t;simp [stpa,stpl]
theorem stpa_one (t:Tr) (k b:ByteArray):(stpa t k b).all (·.oneCell')=true:=by
 have h:=tcs_one t;rw [←Array.all_toList] at h;unfold stpa stpl;rw [List.all_toArray,List.all_append,h];rfl
def StpAt (w:World) (K:Nat) (cs:Array Value):Prop:=w.heap[K]? =some (.cells cs 202 (0,0))
theorem results_sp {fn:Func} {p t:Tmp} (hf:fn.results=#[.cell p 202,.tmp t]) (tmps:Array Value) (W:World) (K:Nat) (cs:Array Value) (hp:tmps[p]? =some (.pointer (some ⟨K,0,none⟩))) (hk:StpAt W K cs) (hc:cs.size=238):
  (results fn tmps).run Tryz.prog W=.ok (.tuple #[.agg cs,tmps.getD t undef]) W:=by
 have h:=run_loadVar_row W K _ 202 _ _ _ hk Tryz.underlying202 rfl (by rw [hc];exact infoStp);simp [results,hf,hp,asAddr,h]
theorem bSt {ops:Array Oper} {rest:List Oper} {o:Oper} {a:Act} {w:World} {Q:Exit→Act→World→Prop} {t:Tr} {k b:ByteArray} {ct c:Array Value} (ht:tcs t=ct) (hc:stpa t k b=c) (hg:o.guard=none) (x0 x1 x2:Operand) (ho:o.op=.build 202 #[(0,x0),(1,x1),(2,x2)])
  (h0:a.eval x0=.agg ct) (h1:a.eval x1=.string k) (h2:a.eval x2=.string b) (kk:wpList Tryz.prog ops Q rest (a.put o.dst (.agg c)) w):wpList Tryz.prog ops Q (o::rest) a w:=by
 subst ht hc;refine wpList_buildTo hg 202 _ ho _ rfl (stpa t k b) ?_ kk
 have e1:((#[(0,x0),(1,x1),(2,x2)]:Array (Nat×Operand)).map fun (i,x)=>(i,a.eval x)).toList=[(0,.agg (tcs t)),(1,.string k),(2,.string b)]:=by
  simp [h0,h1,h2]
 exact (congrArg (Tryz.prog.built 202) e1).trans (built_st t k b)
theorem bSz {ops:Array Oper} {rest:List Oper} {o:Oper} {a:Act} {w:World} {Q:Exit→Act→World→Prop} {c:Array Value} (hc:stpa (tz 0) ⟨#[]⟩ ⟨#[]⟩=c) (hg:o.guard=none) (ho:o.op=.build 202 #[]) (kk:wpList Tryz.prog ops Q rest (a.put o.dst (.agg c)) w):wpList Tryz.prog ops Q (o::rest) a w:=by
 subst hc;exact wpList_buildTo hg 202 #[] ho _ rfl _ ((congrArg (Tryz.prog.built 202) (by simp)).trans built_st0) kk
/- The arguments, boxed, and the answer's place. -/
structure PB (w W:World) (B C K:Nat) (t:Tr) (aL aJ:Option Addr) (nL nJ cL cJ:Nat) (ks:Array Value):Prop where
 tb:TB w W B C t aL aJ nL nJ cL cJ
 re:StpAt W K ks
 ge:w.heap.size≤K
section
variable {w W W':World} {B C K:Nat} {t:Tr} {aL aJ:Option Addr} {nL nJ cL cJ:Nat} {ks:Array Value}
theorem PB.later (h:PB w W B C K t aL aJ nL nJ cL cJ ks) (hb:Below W.heap.size W W'):PB w W' B C K t aL aJ nL nJ cL cJ ks:=⟨h.tb.later hb,Wi.row_later h.re hb,h.ge⟩
theorem PB.new (w:World) (t:Tr) (aL aJ:Option Addr) (nL nJ cL cJ:Nat):PB w (((w.alloc (.cells (tcs t) 54)).alloc (.cells #[.slice aL nL cL,.slice aJ nJ cJ] 41)).alloc (.cells Tryz.zeroCells202 202)) w.heap.size (w.heap.size+1) (w.heap.size+2) t aL aJ nL nJ cL cJ (stpa (tz 0) ⟨#[]⟩ ⟨#[]⟩):=by
 rw [zero_st];have h1:=TB.new w t aL aJ nL nJ cL cJ;have hs:((w.alloc (.cells (tcs t) 54)).alloc (.cells #[.slice aL nL cL,.slice aJ nJ cJ] 41)).heap.size=w.heap.size+2:=by rw [World.size_alloc,World.size_alloc]
 have hb:=below_alloc ((w.alloc (.cells (tcs t) 54)).alloc (.cells #[.slice aL nL cL,.slice aJ nJ cJ] 41)) (.cells (stpa (tz 0) ⟨#[]⟩ ⟨#[]⟩) 202);have hl:=heap_alloc_last ((w.alloc (.cells (tcs t) 54)).alloc (.cells #[.slice aL nL cL,.slice aJ nJ cJ] 41)) (.cells (stpa (tz 0) ⟨#[]⟩ ⟨#[]⟩) 202);rw [hs] at hl;exact ⟨h1.later hb,hl,by omega⟩
theorem PB.fin (h:PB w W B C K t aL aJ nL nJ cL cJ ks) (cs:Array Value):StpAt (W.setRow K cs) K cs∧Below w.heap.size w (W.setRow K cs):=⟨Rt.heap_setRow_same h.re cs,Rt.setRow_below h.ge h.tb.bel cs⟩
end
set_option maxRecDepth 100000 in
set_option maxHeartbeats 1000000 in
theorem planned_no (t:Tr) (aL aJ:Option Addr) (cL cJ:Nat) (L J:List Int) (w:World) (hTb:Tb w) (lL:L.length<1152921504606846976) (lJ:J.length<1152921504606846976) (hL:RdI w aL L) (hJ:RdI w aJ J) (h0:plE t L J≠0):
  Calls Tryz.prog 85 #[.agg (tcs t),.agg #[.slice aL L.length cL,.slice aJ J.length cJ]] w fun e w'=>e=.returned (.tuple #[.agg (stpa (tz 0) ⟨#[]⟩ ⟨#[]⟩),erv (plE t L J) txBt])∧Below w.heap.size w w':=by
 have hP:=PB.new w t aL aJ L.length J.length cL cJ;have hN:=fun W (hW:Below w.heap.size w W)=>next_any t aL aJ cL cJ L J W (hTb.later hW) lL lJ (hL.later hW) (hJ.later hW)
 unfold NextA at hN;have HNP:Hid (∀{X Y:World} {vl vj vi},NextP X Y t L J vl vj vi→(∃a k,vl=.slice a (pnL t L J).length k)∧(∃a k,vj=.slice a (pnJ t L J).length k)∧∃a k,vi=.slice a (pnI t L J).length k):=fun h=>⟨owns_slice h.left,owns_slice h.join,owns_slice h.item⟩
 obtain ⟨n,hn⟩:∃n,pnT t L J=n:=⟨_,rfl⟩;obtain ⟨cn,hcn⟩:∃c,tcs n=c:=⟨_,rfl⟩;have HC:Hid (tcs n=cn):=hcn;obtain ⟨E,hE⟩:∃e,plE t L J=e:=⟨_,rfl⟩;obtain ⟨p,hp⟩:∃e,pnP t L J=e:=⟨_,rfl⟩;obtain ⟨nl,hnl⟩:∃l,(pnL t L J).length=l:=⟨_,rfl⟩;obtain ⟨nj,hnj⟩:∃l,(pnJ t L J).length=l:=⟨_,rfl⟩;obtain ⟨ni,hni⟩:∃l,(pnI t L J).length=l:=⟨_,rfl⟩;obtain ⟨ct,hct⟩:∃c,tcs t=c:=⟨_,rfl⟩;have HT:Hid (tcs t=ct):=hct;simp only [hn,hcn,hE,hp,hct] at hN;simp only [hnl,hnj,hni] at HNP;rw [hE] at h0 ⊢;obtain ⟨NL,hNL⟩:∃x,L.length=x:=⟨_,rfl⟩;obtain ⟨NJ,hNJ⟩:∃x,J.length=x:=⟨_,rfl⟩;rw [hNL,hNJ] at hP ⊢;simp only [hNL,hNJ] at hN;have HN:Hid _:=hN;clear hn hcn hE hp hnl hnj hni hct hNL hNJ hTb lL lJ hL hJ hN;have hd:(E !=0)=true:=by simpa using h0
 clear h0;obtain ⟨cz,hcz⟩:∃c,stpa (tz 0) ⟨#[]⟩ ⟨#[]⟩=c:=⟨_,rfl⟩;have HZ:Hid (stpa (tz 0) ⟨#[]⟩ ⟨#[]⟩=cz):=hcz;clear hcz;go_enter Tryz.func85,Tryz.ntmps85;go_upto_region 1 with (fail)
 generalize ((w.alloc (.cells (tcs t) 54)).alloc (.cells #[.slice aL NL cL,.slice aJ NJ cJ] 41)).alloc (.cells Tryz.zeroCells202 202)=w1 at *;obtain ⟨K,hK⟩:∃K,w.heap.size+2=K:=⟨_,rfl⟩;obtain ⟨C,hC⟩:∃K,w.heap.size+1=K:=⟨_,rfl⟩;obtain ⟨B,hB⟩:∃K,w.heap.size=K:=⟨_,rfl⟩;rw [hK,hC,hB] at hP;try rw [hK,hC,hB]
 have HP:Hid (PB w w1 B C K t aL aJ NL NJ cL cJ (stpa (tz 0) ⟨#[]⟩ ⟨#[]⟩)):=hP;have hT1:=hP.tb.tr;obtain ⟨d0,d1⟩:=hP.tb.bt.cells;have h1:=HN.out w1 hP.tb.bel;clear hK hC hB hP HN;go_wp2_with (show wpList _ _ _ ({dst:=_,op:=Op.load 54 _,type:=_,pos:=_,after:=_,guard:=_}::_) _ _;refine rdT hT1 HT.out _ rfl rfl rfl ?_)
 refine h1.mono ?_;rintro r w7 ⟨⟨vl,vj,vi,rfl,hNP⟩,hb7⟩;obtain ⟨⟨e1,f1,rfl⟩,⟨e2,f2,rfl⟩,⟨e3,f3,rfl⟩⟩:=HNP.out hNP;obtain ⟨t1,t2,W8,hW,tT,tR,tB⟩:=two_boxes w7 n cn #[.int .i64 p,.slice e1 nl f1,.slice e2 nj f2,.slice e3 ni f3] HC.out;have HP8:Hid (PB w W8 B C K t aL aJ NL NJ cL cJ (stpa (tz 0) ⟨#[]⟩ ⟨#[]⟩)):=HP.out.later (hb7.trans (tB.mono hb7.size));clear h1 hT1 d0 d1 hNP tB hb7 HP HNP;go_upto_region 2 with (first | (show wpList _ _ _ ({dst:=_,op:=Op.store 54 _ _,type:=_,pos:=_,after:=_,guard:=_}::_) _ _;refine stTc t1 HC.out rfl _ _ rfl rfl rfl ?_) | (show wpList _ _ _ ({dst:=_,op:=Op.store 78 _ _,type:=_,pos:=_,after:=_,guard:=_}::_) _ _;refine stRw infoRk (cs:=rkz) rkz_size t2 _ rfl (rk_one _ _ _ _ _ _ _ _ _ _) rfl _ _ rfl rfl rfl ?_))
 clear t1 t2 hW tT tR;generalize w7.heap.size=T at *;have hu:=unless_any E txBt W8;obtain ⟨ev,hev⟩:∃v,erv E txBt=v:=⟨_,rfl⟩;have HEV:Hid (erv E txBt=ev):=hev;rw [hev] at hu;clear hev;have hK:=HP8.out.re;rw [HZ.out] at hK;have h9:=HP8.out.fin cz;have HF:Hid (StpAt (W8.setRow K cz) K cz∧Below w.heap.size w (W8.setRow K cz)):=h9;have HSZ:Hid (cz.size=238∧cz.all (·.oneCell')=true):=⟨by rw [←HZ.out];exact stpa_size _ _ _,by rw [←HZ.out];exact stpa_one _ _ _⟩;clear h9 HP8;go_wp2_with (first | (show wpList _ _ _ ({dst:=_,op:=Op.build 202 _,type:=_,pos:=_,after:=_,guard:=_}::_) _ _;refine bSz HZ.out rfl rfl ?_))
 refine hu.mono ?_;rintro r W8 ⟨rfl,rfl⟩;go_wp2_with (show wpList _ _ _ ({dst:=_,op:=Op.store 202 _ _,type:=_,pos:=_,after:=_,guard:=_}::_) _ _;refine stRw infoStp (cs:=cz) HSZ.out.1 hK cz HSZ.out.1 HSZ.out.2 rfl _ _ rfl rfl rfl ?_)
 refine bodyPost_ret (results_sp (p:=4) (t:=5) rfl _ _ K cz rfl HF.out.1 HSZ.out.1) rfl ?_;exact ⟨by rw [HEV.out,HZ.out];rfl,HF.out.2⟩
open Rs (RdI ps Tb i64s owns_slice owns_later)
set_option maxHeartbeats 2000000 in
theorem planned_yes (t:Tr) (aL aJ:Option Addr) (cL cJ:Nat) (L J:List Int) (w:World) (hTb:Tb w) (lL:L.length<1152921504606846976) (lJ:J.length<1152921504606846976) (hL:RdI w aL L) (hJ:RdI w aJ J) (h0:plE t L J=0):
  Calls Tryz.prog 85 #[.agg (tcs t),.agg #[.slice aL L.length cL,.slice aJ J.length cJ]] w fun e w'=>e=.returned (.tuple #[.agg (stpa (pnT t L J) (lg t (L,J)) (msB t L J)),.nilIface])∧Below w.heap.size w w':=by
 have hP:=PB.new w t aL aJ L.length J.length cL cJ;have hN:=fun W (hW:Below w.heap.size w W)=>next_any t aL aJ cL cJ L J W (hTb.later hW) lL lJ (hL.later hW) (hJ.later hW)
 have hO:=fun W (hW:Below w.heap.size w W)=>of_any t aL aJ cL cJ L J W (hTb.later hW) lL lJ (hL.later hW) (hJ.later hW)
 have hW:=fun W a b k m (ha:RdI W a L) (hb:RdP W b (pnJ t L J))=>write_any (pnT t L J).ep (pnT t L J).fr a b k m L (pnJ t L J) W ha hb
 have hlg:wrS (pnT t L J).ep (pnT t L J).fr L (pnJ t L J)=lg t (L,J):=rfl;have hoL:oLv t L J=L:=by unfold oLv;rw [if_pos h0]
 rw [hlg] at hW;have hE:=fun W a1 a2 a3 k1 k2 k3 (h:Wi.MR W (stM t L J) a1 a2 a3)=>Wi.encode_1 (stM t L J) a1 a2 a3 k1 k2 k3 W h (stM_good h0) rfl
 have hsM:stM t L J=Wi.mR (pnP t L J,(pnL t L J,(pnJ t L J,(pnI t L J).map itP))):=by
  unfold stM;rw [mS_pn h0];rfl
 have hmv:∀a1 a2 a3 k1 k2 k3,(Wi.mgv (stM t L J) a1 a2 a3 k1 k2 k3).toArray=#[.int .i64 1,.int .i64 (pnP t L J),.slice a1 (pnL t L J).length k1,.slice a2 (pnJ t L J).length k2,.slice a3 (pnI t L J).length k3,.int .i64 0,.int .i64 0,.int .i64 0,.int .i64 0,.int .i64 0,.int .i64 0,.int .i64 0,.int .i64 0,.int .i64 0,.int .i64 0,.int .i64 0,.int .i64 0,.int .i64 0,.int .i64 0,.int .i64 0,.int .i64 0,.int .i64 0,.int .i64 0,.int .i64 0,.int .i64 0,.string ⟨#[]⟩]:=fun a1 a2 a3 k1 k2 k3=>by
  rw [hsM];have e3:((pnI t L J).map itP).length=(pnI t L J).length:=List.length_map ..;unfold Wi.mgv Wi.mR;dsimp only;rw [e3];rfl
 simp only [hmv] at hE;unfold NextA at hN;unfold OfA recA at hO;rw [h0] at hN hO;have HMR:Hid (∀{X Y:World} {a1 k1 a2 k2 a3 k3},Y.ownsRow X.heap.size 165 2 (.slice a1 (pnL t L J).length k1) (pnL t L J).length (ps (pnL t L J))→Y.ownsRow X.heap.size 165 2 (.slice a2 (pnJ t L J).length k2) (pnJ t L J).length (ps (pnJ t L J))→Y.ownsRow X.heap.size 121 6 (.slice a3 (pnI t L J).length k3) (pnI t L J).length (isl (pnI t L J))→Wi.MR Y (stM t L J) a1 a2 a3):=fun g1 g2 g3=>next_mr h0 g1 g2 g3
 have HNP:Hid (∀{X Y:World} {vl vj vi},NextP X Y t L J vl vj vi→Y.ownsRow X.heap.size 165 2 vl (pnL t L J).length (ps (pnL t L J))∧Y.ownsRow X.heap.size 165 2 vj (pnJ t L J).length (ps (pnJ t L J))∧Y.ownsRow X.heap.size 121 6 vi (pnI t L J).length (isl (pnI t L J))):=fun h=>⟨h.left,h.join,h.item⟩
 have HRP:Hid (∀{X Y:World} {vL vJ:Value},RecP X Y t L J vL vJ→Y.ownsRow X.heap.size 3 1 vL L.length (i64s L)∧Y.ownsRow X.heap.size 165 2 vJ (pnJ t L J).length (ps (pnJ t L J))):=fun h=>by
  have q:=h.lv;rw [hoL] at q;exact ⟨q,h.jn⟩
 rw [show Wi.enS (stM t L J)=msB t L J from rfl] at hE;obtain ⟨mt,hmt⟩:∃m,stM t L J=m:=⟨_,rfl⟩;rw [hmt] at hE HMR;obtain ⟨mb,hmb⟩:∃m,msB t L J=m:=⟨_,rfl⟩;obtain ⟨kt,hkt⟩:∃m,lg t (L,J)=m:=⟨_,rfl⟩;obtain ⟨n,hn⟩:∃n,pnT t L J=n:=⟨_,rfl⟩;obtain ⟨cn,hcn⟩:∃c,tcs n=c:=⟨_,rfl⟩;have HC:Hid (tcs n=cn):=hcn;obtain ⟨p,hp⟩:∃e,pnP t L J=e:=⟨_,rfl⟩;obtain ⟨ll,hll⟩:∃l,pnL t L J=l:=⟨_,rfl⟩;obtain ⟨lj,hlj⟩:∃l,pnJ t L J=l:=⟨_,rfl⟩;obtain ⟨li,hli⟩:∃l,pnI t L J=l:=⟨_,rfl⟩;obtain ⟨ct,hct⟩:∃c,tcs t=c:=⟨_,rfl⟩;have HT:Hid (tcs t=ct):=hct;obtain ⟨EW,hEW⟩:∃e,wrE n.ep n.fr L lj=e:=⟨_,rfl⟩;simp only [hn,hcn,hp,hct,hlj] at hN hO;simp only [hn,hkt,hlj,hEW] at hW;simp only [hmb,hp,hll,hlj,hli] at hE;simp only [hll,hlj,hli] at HMR HNP;simp only [hlj] at HRP;rw [hn,hkt,hmb];obtain ⟨cf,hcf⟩:∃c,stpa n kt mb=c:=⟨_,rfl⟩;have HF:Hid (stpa n kt mb=cf):=hcf;obtain ⟨NL,hNL⟩:∃x,L.length=x:=⟨_,rfl⟩;obtain ⟨NJ,hNJ⟩:∃x,J.length=x:=⟨_,rfl⟩;rw [hNL,hNJ] at hP ⊢;simp only [hNL,hNJ] at hN hO;have HNL:Hid (L.length=NL):=hNL;have HN:Hid _:=hN;have HO:Hid _:=hO;have HW:Hid _:=hW;have HE:Hid _:=hE;clear hmt hmb hkt hn hcn hp hll hlj hli hct hEW hcf hNL hNJ hTb lL lJ hL hJ hN hO hW hE hlg hoL hsM hmv h0;go_enter Tryz.func85,Tryz.ntmps85;go_upto_region 1 with (fail)
 generalize ((w.alloc (.cells (tcs t) 54)).alloc (.cells #[.slice aL NL cL,.slice aJ NJ cJ] 41)).alloc (.cells Tryz.zeroCells202 202)=w1 at *;obtain ⟨K,hK⟩:∃K,w.heap.size+2=K:=⟨_,rfl⟩;obtain ⟨C,hC⟩:∃K,w.heap.size+1=K:=⟨_,rfl⟩;obtain ⟨B,hB⟩:∃K,w.heap.size=K:=⟨_,rfl⟩;rw [hK,hC,hB] at hP;try rw [hK,hC,hB]
 have HP:Hid (PB w w1 B C K t aL aJ NL NJ cL cJ (stpa (tz 0) ⟨#[]⟩ ⟨#[]⟩)):=hP;have hT1:=hP.tb.tr;obtain ⟨d0,d1⟩:=hP.tb.bt.cells;have h1:=HN.out w1 hP.tb.bel;clear hK hC hB hP HN;go_wp2_with (show wpList _ _ _ ({dst:=_,op:=Op.load 54 _,type:=_,pos:=_,after:=_,guard:=_}::_) _ _;refine rdT hT1 HT.out _ rfl rfl rfl ?_)
 refine h1.mono ?_;rintro r w7 ⟨⟨vl,vj,vi,rfl,hNP⟩,hb7⟩;obtain ⟨g1,g2,g3⟩:=HNP.out hNP;obtain ⟨e1,f1,rfl⟩:=owns_slice g1;obtain ⟨e2,f2,rfl⟩:=owns_slice g2;obtain ⟨e3,f3,rfl⟩:=owns_slice g3;have hMR:=HMR.out g1 g2 g3;obtain ⟨t1,t2,W8,hW,tT,tR,tB⟩:=two_boxes w7 n cn #[.int .i64 p,.slice e1 ll.length f1,.slice e2 lj.length f2,.slice e3 li.length f3] HC.out;have HP8:Hid (PB w W8 B C K t aL aJ NL NJ cL cJ (stpa (tz 0) ⟨#[]⟩ ⟨#[]⟩)∧TrAt W8 w7.heap.size n∧RkAt W8 (w7.heap.size+1) #[.int .i64 p,.slice e1 ll.length f1,.slice e2 lj.length f2,.slice e3 li.length f3]∧Wi.MR W8 mt e1 e2 e3):=⟨HP.out.later (hb7.trans (tB.mono hb7.size)),tT,tR,hMR.later tB⟩;clear h1 hT1 d0 d1 hNP tB hb7 HP HNP HMR hMR tT tR g1 g2 g3;go_upto_region 2 with (first | (show wpList _ _ _ ({dst:=_,op:=Op.store 54 _ _,type:=_,pos:=_,after:=_,guard:=_}::_) _ _;refine stTc t1 HC.out rfl _ _ rfl rfl rfl ?_) | (show wpList _ _ _ ({dst:=_,op:=Op.store 78 _ _,type:=_,pos:=_,after:=_,guard:=_}::_) _ _;refine stRw infoRk (cs:=rkz) rkz_size t2 _ rfl (rk_one _ _ _ _ _ _ _ _ _ _) rfl _ _ rfl rfl rfl ?_))
 clear t1 t2 hW;obtain ⟨G,hG⟩:∃A,w7.heap.size+1=A:=⟨_,rfl⟩;rw [hG] at HP8;try rw [hG]
 clear hG;generalize w7.heap.size=T at *;have hT1:=HP8.out.1.tb.tr;obtain ⟨d0,d1⟩:=HP8.out.1.tb.bt.cells;have h1:=HO.out W8 HP8.out.1.tb.bel;clear HO;go_wp2_with (show wpList _ _ _ ({dst:=_,op:=Op.load 54 _,type:=_,pos:=_,after:=_,guard:=_}::_) _ _;refine rdT hT1 HT.out _ rfl rfl rfl ?_)
 refine h1.mono ?_;rintro r w9 ⟨⟨vL,vJ,rfl,hRP⟩,hb9⟩;obtain ⟨g1,g2⟩:=HRP.out hRP;obtain ⟨a6,k6,rfl⟩:=owns_slice g1;obtain ⟨a7,k7,rfl⟩:=owns_slice g2;have hbR:=below_alloc w9 (.cells #[.int .i64 n.ep,.int .i64 n.fr,.slice a6 L.length k6,.slice a7 lj.length k7] 94);have hR:=RcAt.new w9 #[.int .i64 n.ep,.int .i64 n.fr,.slice a6 L.length k6,.slice a7 lj.length k7];have hb10:=hb9.trans (hbR.mono hb9.size);have HRR:Hid (RdI (w9.alloc (.cells #[.int .i64 n.ep,.int .i64 n.fr,.slice a6 L.length k6,.slice a7 lj.length k7] 94)) a6 L∧RdP (w9.alloc (.cells #[.int .i64 n.ep,.int .i64 n.fr,.slice a6 L.length k6,.slice a7 lj.length k7] 94)) a7 lj):=⟨(rdI_of g1).later hbR,(rdP_of g2).later hbR⟩;have HP9:Hid (PB w (w9.alloc (.cells #[.int .i64 n.ep,.int .i64 n.fr,.slice a6 L.length k6,.slice a7 lj.length k7] 94)) B C K t aL aJ NL NJ cL cJ (stpa (tz 0) ⟨#[]⟩ ⟨#[]⟩)∧TrAt (w9.alloc (.cells #[.int .i64 n.ep,.int .i64 n.fr,.slice a6 L.length k6,.slice a7 lj.length k7] 94)) T n∧RkAt (w9.alloc (.cells #[.int .i64 n.ep,.int .i64 n.fr,.slice a6 L.length k6,.slice a7 lj.length k7] 94)) G #[.int .i64 p,.slice e1 ll.length f1,.slice e2 lj.length f2,.slice e3 li.length f3]∧Wi.MR (w9.alloc (.cells #[.int .i64 n.ep,.int .i64 n.fr,.slice a6 L.length k6,.slice a7 lj.length k7] 94)) mt e1 e2 e3):=⟨HP8.out.1.later hb10,HP8.out.2.1.later hb10,Wi.row_later HP8.out.2.2.1 hb10,HP8.out.2.2.2.later hb10⟩;clear h1 hT1 d0 d1 hRP g1 g2 hbR hb9 hb10 HRP HP8;go_upto_region 5 with (fail)
 generalize w9.alloc (.cells #[.int .i64 n.ep,.int .i64 n.fr,.slice a6 L.length k6,.slice a7 lj.length k7] 94)=w10 at *;generalize w9.heap.size=R at *;obtain ⟨x0,x1,x2,x3⟩:=hR.cells;have h1:=HW.out w10 a6 a7 k6 k7 HRR.out.1 HRR.out.2;clear hR HRR HW;go_wp2_with fail
 refine h1.mono ?_;rintro r w11 ⟨rfl,hb11⟩;have HPB:Hid (PB w w11 B C K t aL aJ NL NJ cL cJ (stpa (tz 0) ⟨#[]⟩ ⟨#[]⟩)∧TrAt w11 T n):=⟨HP9.out.1.later hb11,HP9.out.2.1.later hb11⟩
 obtain ⟨y0,y1,y2,y3⟩:w11.cell? ⟨G,0,none⟩=some (.int .i64 p)∧w11.cell? ⟨G,1,none⟩=some (.slice e1 ll.length f1)∧w11.cell? ⟨G,2,none⟩=some (.slice e2 lj.length f2)∧w11.cell? ⟨G,3,none⟩=some (.slice e3 li.length f3):=by
  have hG:=Wi.row_later HP9.out.2.2.1 hb11;exact ⟨cell_of_row _ _ _ _ _ _ hG,cell_of_row _ _ _ _ _ _ hG,cell_of_row _ _ _ _ _ _ hG,cell_of_row _ _ _ _ _ _ hG⟩
 have h2:=HE.out w11 e1 e2 e3 f1 f2 f3 (HP9.out.2.2.2.later hb11);clear h1 x0 x1 x2 x3 hb11 HP9 HE;go_wp2_with fail
 refine h2.mono ?_;rintro r w12 ⟨rfl,hb12⟩;have HP12:Hid (PB w w12 B C K t aL aJ NL NJ cL cJ (stpa (tz 0) ⟨#[]⟩ ⟨#[]⟩)):=HPB.out.1.later hb12;have hTn:=HPB.out.2.later hb12;obtain ⟨cz,hcz⟩:∃c,stpa (tz 0) ⟨#[]⟩ ⟨#[]⟩=c:=⟨_,rfl⟩;have hK:=HP12.out.re;rw [hcz] at hK;have h9:=HP12.out.fin cf;have HFN:Hid (StpAt (w12.setRow K cf) K cf∧Below w.heap.size w (w12.setRow K cf)):=h9;have HSZ:Hid (cz.size=238∧cf.size=238∧cf.all (·.oneCell')=true):=⟨by rw [←hcz];exact stpa_size _ _ _,by rw [←HF.out];exact stpa_size _ _ _,by rw [←HF.out];exact stpa_one _ _ _⟩;clear h2 y0 y1 y2 y3 hb12 HPB HP12 h9 hcz;go_wp2_with (first | (show wpList _ _ _ ({dst:=_,op:=Op.load 54 _,type:=_,pos:=_,after:=_,guard:=_}::_) _ _;refine rdT hTn HC.out _ rfl rfl rfl ?_) | (show wpList _ _ _ ({dst:=_,op:=Op.build 202 _,type:=_,pos:=_,after:=_,guard:=_}::_) _ _;refine bSt HC.out HF.out rfl _ _ _ rfl rfl rfl rfl ?_) | (show wpList _ _ _ ({dst:=_,op:=Op.store 202 _ _,type:=_,pos:=_,after:=_,guard:=_}::_) _ _;refine stRw infoStp (cs:=cz) HSZ.out.1 hK cf HSZ.out.2.1 HSZ.out.2.2 rfl _ _ rfl rfl rfl ?_))
 refine bodyPost_ret (results_sp (p:=4) (t:=5) rfl _ _ K cf rfl HFN.out.1 HSZ.out.2.1) rfl ?_;exact ⟨by rw [HF.out];rfl,HFN.out.2⟩
end Go.Proofs.YtoimkngkcliinaaGreatDoor
