/- SvB, SvG, SvD0, SvD, SvH, joined. -/
import Derived.Test.YtanaapfobpgibaaGreatDoorJSvMath
open Go.Proofs.Tryz
set_option maxHeartbeats 4000000
namespace Go.Proofs.YtanaapfobpgibaaGreatDoor
open Go.RowKit Go.Maps
open Jr.Dk (ib Jn St Dk bG aaQ)
set_option linter.unusedVariables false
set_option maxRecDepth 4000
set_option linter.unusedSimpArgs false
/- An error inside: none, or one that wraps a number. -/
def tK (e:Int) (x:ByteArray):Value:=if e=0 then .nilIface else .iface 162 (.agg #[.string x,.iface 121 (.agg #[.int .i64 e])])
theorem lx (e:Int) (x:ByteArray) (w:World):Calls prog 33 #[.int .i64 e,.string x] w fun r w'=>r=.returned (tK e x)∧w'=w:=by
 unfold tK;by_cases h0:e=0
 ·subst h0;rw [if_pos rfl];go_enter func33,ntmps33;go_wp2
  go_ret;exact ⟨rfl,rfl⟩
 ·rw [if_neg h0];have hd:(e==0)=false:=by simpa using h0
  go_enter func33,ntmps33;go_wp2
  go_ret;exact ⟨rfl,rfl⟩
section
variable {N:Nat} {w0 w:World} {p S j:Nat} {s:St} {t:Tr} {d:Bool}
theorem jt (h:ia w S p j t d):Calls prog 16 #[.pointer (some ⟨S,0,none⟩)] w fun e w'=>e=.returned (.agg (aC t))∧Below w.heap.size w w':=by
 obtain ⟨c,hc⟩:∃c,aC t=c:=⟨_,rfl⟩;have HC:Hid (aC t=c):=hc;have hK:=az.new w (tz 0);have UB:=aa w (.cells (aC (tz 0)) 39);rw [←fu] at hK UB;have hS:=h.later UB;obtain ⟨K,WC⟩:∃K,w.heap.size=K:=⟨_,rfl⟩;have HKE:Hid (w.heap.size=K):=WC;rw [WC] at hK;have HB:Hid (Below w.heap.size w (w.alloc (.cells zeroCells39 39))):=UB;go_enter func16,ntmps16;go_upto_region 1 with (fail)
 try rw [WC]
 clear h WC UB hc;generalize w.alloc (.cells zeroCells39 39)=w1 at *;have HF:Hid (az (w1.setRow K c) K t∧Below w.heap.size w (w1.setRow K c)):=⟨by rw [←HC.out];exact hK.row t,Rt.ag (by have:=HKE.out;omega) HB.out _⟩;go_wp2_with (first | (show wpList _ _ _ ({dst:=_,op:=Op.load 39 _,type:=_,pos:=_,after:=_,guard:=_}::_) _ _;refine rdS hS HC.out _ rfl rfl rfl ?_) | (show wpList _ _ _ ({dst:=_,op:=Op.store 39 _ _,type:=_,pos:=_,after:=_,guard:=_}::_) _ _;refine eE hK HC.out rfl _ _ rfl rfl rfl ?_))
 refine bodyPost_ret (o_ rfl _ _ K t rfl HF.out.1) rfl ?_;exact ⟨rfl,HF.out.2⟩
theorem DN (hg:ib N w0 w p s) (h:ia w S p j t d):Calls prog 70 #[.pointer (some ⟨S,0,none⟩)] w fun e w'=>e=.returned (.bool (d||decide (s.left=0)))∧w'=w:=by
 have iF:=aaQ hg;obtain ⟨c0,c1,c2⟩:=h.cells;clear hg h
 cases d with
 | true=>
  go_enter func70,ntmps70;go_wp2_with fail
  go_ret;exact ⟨rfl,rfl⟩
 | false=>
  obtain ⟨b,hb⟩:∃b,decide (s.left≠0)=b:=⟨_,rfl⟩;have e:decide (s.left=0)= !b:=by rw [←hb];simp
  rw [hb] at iF;rw [e];clear e hb;go_enter func70,ntmps70;go_wp2_with fail
  refine iF.mono ?_;rintro e w ⟨rfl,rfl⟩;go_wp2_with fail
  go_ret;exact ⟨rfl,rfl⟩
abbrev EU:ByteArray:={data:=#[116,104,101,32,115,101,114,118,101,114]}
theorem Xr (hg:ib N w0 w p s) (h:ia w S p j t false) (h0:s.left≠0):Calls prog 36 #[.pointer (some ⟨S,0,none⟩)] w fun e w'=>e=.returned .nilIface∧w'=w:=by
 have hd:=DN hg h;rw [show (false||decide (s.left=0))=false by simp [h0]] at hd;clear hg h h0;go_enter func36,ntmps36;go_wp2_with fail
 refine hd.mono ?_;rintro e w ⟨rfl,rfl⟩;go_wp2_with fail
 go_ret;exact ⟨rfl,rfl⟩
theorem aav (hg:ib N w0 w p s) (h:ia w S p j t d) (h0:d=true∨s.left=0):Calls prog 36 #[.pointer (some ⟨S,0,none⟩)] w fun e w'=>e=.returned (tK 11 EU)∧w'=w:=by
 have hd:=DN hg h;rw [show (d||decide (s.left=0))=true by rcases h0 with h0 | h0 <;> simp [h0]] at hd;have hu:=lx 11 EU w;clear hg h h0;go_enter func36,ntmps36;go_wp2_with fail
 refine hd.mono ?_;rintro e w ⟨rfl,rfl⟩;go_wp2_with fail
 refine hu.mono ?_;rintro e w ⟨rfl,rfl⟩;go_wp2_with fail
 go_ret;exact ⟨rfl,rfl⟩
end
open Go.RowKit Go.Extern.Stop Go.Stop Go.Extern
def Er (w:World):Prop:=w.cell? ⟨0,0,none⟩=some (.iface 204 (.agg #[.pointer (some ⟨5,83,none⟩)]))
theorem Er.later {w w':World} (h:Er w) (hb:Below w.heap.size w w'):Er w':=Rs.cell_later hb h
theorem QI (h:Value) (w:World):(Go.method 479 204 (.agg #[h]) "Kind").run prog w=.ok (278,h) w:=by kernel_rfl
theorem QK (h:Value) (w:World):(Go.method 479 204 (.agg #[h]) "Elem").run prog w=.ok (292,.agg #[h]) w:=by kernel_rfl
theorem QJ (h:Value) (w:World):(Go.method 479 204 (.agg #[h]) "Implements").run prog w=.ok (293,.agg #[h]) w:=by kernel_rfl
theorem ZT (x:ByteArray) (e:Int) (R:Nat) (old:Value) (w:World) (hg:Er w) (Ue:w.cell? ⟨R,0,none⟩=some old) (hf0:w.frozen? ⟨R,0,none⟩=false):
  Calls prog 35 #[.iface 162 (.agg #[.string x,.iface 121 (.agg #[.int .i64 e])]),.iface 123 (.pointer (some ⟨R,0,none⟩))] w
   fun ev w'=>ev=.returned (.bool true)∧∃W,Below w.heap.size w W∧w'=W.setCell ⟨R,0,none⟩ (.int .i64 e):=by
 have h3:= @run_callFunc_extern prog 66 _ (fun args=>ReflectliteValue.unpack (args.getD 0 (.tuple #[]))) func66 (by kernel_rfl) (by kernel_rfl) (by kernel_rfl) (by kernel_rfl);have h7:= @run_callFunc_extern prog 67 _ (ReflectliteValue.methodAny (ReflectliteValue.valueError "reflectlite.Value.Type" 0) (fun t _ _ _=>ReflectliteType.toType t)) func67 (by kernel_rfl) (by kernel_rfl) (by kernel_rfl) (by kernel_rfl);have h8:= @run_callFunc_extern prog 68 _ (ReflectliteValue.method (ReflectliteValue.valueError "reflectlite.Value.IsNil" 0) ReflectliteValue.isNil) func68 (by kernel_rfl) (by kernel_rfl) (by kernel_rfl) (by kernel_rfl);have h27:= @run_callFunc_extern prog 278 _ (ReflectliteType.abiMethod fun t=>do pure (.int .u8 (←Rtype.kind t))) func278 (by kernel_rfl) (by kernel_rfl) (by kernel_rfl) (by kernel_rfl);have h37:= @run_callFunc_extern prog 292 _ (ReflectliteType.method ReflectliteType.elem) func292 (by kernel_rfl) (by kernel_rfl) (by kernel_rfl) (by kernel_rfl);have h38:= @run_callFunc_extern prog 293 _ (ReflectliteType.relation "Implements" ReflectliteType.implements_) func293 (by kernel_rfl) (by kernel_rfl) (by kernel_rfl) (by kernel_rfl);have f6:=DM;have f7:=QH;have mK:=QI;have mE:=QK;have mI:=QJ;have k1:=QM;have k2:=QL;have e1:=QO;have i1:=U9;unfold Er at hg;have n8:=LG ⟨w.heap.size,0,none⟩ ⟨R,0,none⟩ ((w.alloc (.cells #[.pointer (some ⟨R,0,none⟩)] 123)).alloc (.cells #[.pointer (some ⟨5,123,none⟩),.pointer (some ⟨w.heap.size,0,none⟩),.int .u64 150] 169)) (by simp);have hg2:=ca2 hg (.cells #[.pointer (some ⟨R,0,none⟩)] 123) (.cells #[.pointer (some ⟨5,123,none⟩),.pointer (some ⟨w.heap.size,0,none⟩),.int .u64 150] 169);have hc:=ca2 Ue (.cells #[.pointer (some ⟨R,0,none⟩)] 123) (.cells #[.pointer (some ⟨5,123,none⟩),.pointer (some ⟨w.heap.size,0,none⟩),.int .u64 150] 169);have hf:=fa (fa hf0 Ue (.cells #[.pointer (some ⟨R,0,none⟩)] 123)) (ca Ue _) (.cells #[.pointer (some ⟨5,123,none⟩),.pointer (some ⟨w.heap.size,0,none⟩),.int .u64 150] 169);have ht:=ZQ x e R w.heap.size old ((w.alloc (.cells #[.pointer (some ⟨R,0,none⟩)] 123)).alloc (.cells #[.pointer (some ⟨5,123,none⟩),.pointer (some ⟨w.heap.size,0,none⟩),.int .u64 150] 169)) (by simp) hc hf;clear hc hf Ue hf0 hg;go_enter func35,ntmps35;go_wp2_with fail
 refine ht.mono ?_;rintro r w' ⟨rfl,rfl⟩;go_wp2_with fail
 go_ret;exact ⟨rfl,_,((((aa w _).alloc (by simp) _).alloc (by simp;omega) _).alloc (by simp;omega) _).alloc (by simp;omega) _,rfl⟩
theorem ek (e:Int) (x:ByteArray) (w:World) (hg:Er w):Calls prog 19 #[tK e x] w fun r w'=>r=.returned (.int .i64 e)∧Below w.heap.size w w':=by
 unfold tK;by_cases h0:e=0
 ·subst h0;rw [if_pos rfl];have hn:=ZR;go_enter func19,ntmps19;go_wp2_with fail
  refine (hn _ _).mono ?_;rintro r w' ⟨rfl,rfl⟩;go_wp2_with fail
  go_ret;exact ⟨rfl,aa _ _⟩
 ·rw [if_neg h0];have hb:=aa w (.cells #[.int .i64 0] 121);have ha:=ZT x e w.heap.size (.int .i64 0) (w.alloc (.cells #[.int .i64 0] 121)) (hg.later hb) (by simp) (by simp);clear hg h0;go_enter func19,ntmps19;go_wp2_with fail
  refine ha.mono ?_;rintro r w' ⟨rfl,W,UA,rfl⟩;have hs:=UA.size
  have hc:(W.setCell ⟨w.heap.size,0,none⟩ (.int .i64 e)).cell? ⟨w.heap.size,0,none⟩=some (.int .i64 e):=by
   have h1:W.heap[w.heap.size]? =some (.cells #[.int .i64 0] 121):=(UA.block _ (by simp)).trans (heap_alloc_last w _);have h2:=Wi.uz h1 0 (.int .i64 e);rw [cell_of_row _ _ _ _ _ _ h2];rfl
  have hb2:Below w.heap.size w (W.setCell ⟨w.heap.size,0,none⟩ (.int .i64 e)):=(hb.trans (UA.mono hb.size)).setCell (p:=⟨w.heap.size,0,none⟩) (Nat.le_refl _) _;have bm:Hid (Below w.heap.size w (W.setCell ⟨w.heap.size,0,none⟩ (.int .i64 e))):=hb2;clear ha UA hs hb hb2;generalize W.setCell ⟨w.heap.size,0,none⟩ (.int .i64 e)=w2 at *;go_wp2_with fail
  go_ret;exact ⟨rfl,bm.out⟩
open Go.RowKit Go.Great
set_option maxRecDepth 100000 in
theorem Ra (p j:Nat) (t:Tr):prog.built 94 [(0,.pointer (some ⟨p,0,none⟩)),(1,.pointer (some ⟨j,0,none⟩)),(2,.agg (aC t))]=some (Hv p j t false):=by kernel_rfl
/- All that there is of a step ahead of its being gone. -/
def M6 (t:Tr) (k b:ByteArray):List Value:=(aC t).toList++[.string k,.string b]
def dE (t:Tr) (k b:ByteArray):Array Value:=(M6 t k b).toArray
set_option maxRecDepth 100000 in
theorem Rb (t:Tr) (k b:ByteArray):prog.built 126 [(0,.agg (aC t)),(1,.string k),(2,.string b)]=some (dE t k b):=by kernel_rfl
theorem LR:prog.built 126 []=some (dE (tz 0) ⟨#[]⟩ ⟨#[]⟩):=by kernel_rfl
theorem zH:zeroCells126=dE (tz 0) ⟨#[]⟩ ⟨#[]⟩:=by kernel_rfl
theorem qz:(prog.info? 126).map (·.size)=some 238:=by kernel_rfl
open Go.RowKit Go.Maps Go.Great Rc
open Rs (Tb ah)
open Jr.Dk (ib Jn St Hs bG ym iC xY yT zZ BI eF)
/- What the library's variables hold. -/
variable {p:Nat} {w:World} {t:Tr}
structure Vs (w:World):Prop where
 tb:Tb w
 er:Er w
theorem Vs.later {w w':World} (h:Vs w) (hb:Below w.heap.size w w'):Vs w':=⟨h.tb.later hb,h.er.later hb⟩
theorem bV {fn:Func} {p q:Tmp} (hf:fn.results=#[.tmp p,.tmp q]) (tmps:Array Value) (W:World):(results fn tmps).run prog W=.ok (.tuple #[tmps.getD p undef,tmps.getD q undef]) W:=by
 simp [results,hf]
theorem bSv {ops:Array Oper} {rest:List Oper} {o:Oper} {a:Act} {Q:Exit→Act→World→Prop} {j:Nat} {ct c:Array Value} (ht:aC t=ct) (hc:Hv p j t false=c) (hg:o.guard=none) (x0 x1 x2:Operand) (ho:o.op=.build 94 #[(0,x0),(1,x1),(2,x2)])
  (h0:a.eval x0=.pointer (some ⟨p,0,none⟩)) (h1:a.eval x1=.pointer (some ⟨j,0,none⟩)) (h2:a.eval x2=.agg ct) (kk:wpList prog ops Q rest (a.put o.dst (.agg c)) w):wpList prog ops Q (o::rest) a w:=by
 subst ht hc;refine wpList_buildTo hg 94 _ ho _ rfl (Hv p j t false) ?_ kk
 have e1:((#[(0,x0),(1,x1),(2,x2)]:Array (Nat×Operand)).map fun (i,x)=>(i,a.eval x)).toList=[(0,.pointer (some ⟨p,0,none⟩)),(1,.pointer (some ⟨j,0,none⟩)),(2,.agg (aC t))]:=by
  simp [h0,h1,h2]
 exact (congrArg (prog.built 94) e1).trans (Ra p j t)
abbrev J5:ByteArray:={data:=#[116,104,101,32,100,105,115,107]}
/- A server that was opened. -/
structure Opd (w0 w w':World) (p:Nat) (s:St) (S j:Nat) (t:Tr):Prop where
 go:ib w0.heap.size w0 w' p (xY s)
 jn:Jn w' j p (zZ s).length (BI s) false
 sv:ia w' S p j t false
 jN:w0.heap.size≤j
 sN:w0.heap.size≤S
 kp:bG w w'
 kj:∀i q c a d,Jn w i q c a d→Jn w' i q c a d
theorem Ij {N:Nat} {w0:World} {s:St} (h:ib N w0 w p s) (dY:s.log.length+2048≤5864062014805):
  Calls prog 32 #[.pointer (some ⟨p,0,none⟩)] w fun e w'=>ib N w0 w' p (xY s)∧((yT s=false∧e=.returned (.tuple #[.pointer none,.slice none 0 0,.int .i64 11]))∨
  (yT s=true∧∃j v,e=.returned (.tuple #[.pointer (some ⟨j,0,none⟩),v,.int .i64 0])∧w.heap.size≤j∧Jn w' j p (zZ s).length (BI s) false∧ym w' w.heap.size v (zZ s)))∧bG w w'∧∀j q c a d,Jn w j q c a d→Jn w' j q c a d:=by
 obtain ⟨⟨b,m,x,d⟩,h1,h2⟩:=h;refine (Jr.Dk.Oq N w p s b m x d dY h2).mono ?_;rintro e w' ⟨hw,hr⟩;exact ⟨Jr.Dk.ib.wrote ⟨⟨b,m,x,d⟩,h1,h2⟩ d hw,hr,hw.IA d,fun j q c a dd hj=>Jr.Dk.Wb d hw hj⟩
section
variable {w0 w:World} {p:Nat} {s:St}
theorem KX (hV:Vs w0) (h:ib w0.heap.size w0 w p s) (dY:s.log.length+2048≤5864062014805) (hb:yT s=false):
  Calls prog 18 #[.pointer (some ⟨p,0,none⟩)] w fun e w'=>e=.returned (.tuple #[.pointer none,tK 11 J5])∧ib w0.heap.size w0 w' p (xY s)∧bG w w':=by
 have ho:=Ij h dY;rw [hb] at ho;clear hb h;go_enter func18,ntmps18;go_wp2_with fail
 refine ho.mono ?_;rintro e w1 ⟨hg,(⟨-,rfl⟩ | ⟨h,-⟩),hk,-⟩
 ·have HG:Hid (ib w0.heap.size w0 w1 p (xY s)∧bG w w1):=⟨hg,hk⟩;have hu:=lx 11 J5 w1;clear hg hk ho;go_wp2_with fail
  refine hu.mono ?_;rintro e w1 ⟨rfl,rfl⟩;go_wp2_with fail
  refine bodyPost_ret (bV rfl _ _) rfl ?_;exact ⟨rfl,HG.out⟩
 ·cases h
set_option maxRecDepth 100000 in
theorem KW (hV:Vs w0) (h:ib w0.heap.size w0 w p s) (dY:s.log.length+2048≤5864062014805) (hb:yT s=true) (hr:vu j6 (zZ s)=some t) (hsz:∀X∈zZ s,X.size≤5865):
  Calls prog 18 #[.pointer (some ⟨p,0,none⟩)] w fun e w'=>∃S j,e=.returned (.tuple #[.pointer (some ⟨S,0,none⟩),.nilIface])∧Opd w0 w w' p s S j t:=by
 have ho:=Ij h dY;rw [hb] at ho;have hsc:=(Jr.Dk.aaE s);obtain ⟨l,hl⟩:∃l,zZ s=l:=⟨_,rfl⟩;have HNW:Hid (w0.heap.size≤w.heap.size):=h.size;rw [hl] at hr hsz hsc ho;have EI:Hid (zZ s=l):=hl;clear hb h hl;go_enter func18,ntmps18;go_wp2_with fail
 refine ho.mono ?_;rintro e w1 ⟨hg,(⟨h,-⟩ | ⟨-,j,v,rfl,hj,hjn,hrow⟩),hk,hkj⟩
 ·cases h
 ·obtain ⟨a,cap,rfl⟩:=eF hrow;have Dd:=z8 a cap l t w1 (hV.later (by exact hg.below)).tb hr (Jr.Dk.ym.rd hrow) hsz (by omega);obtain ⟨ct,bQ⟩:∃c,aC t=c:=⟨_,rfl⟩;obtain ⟨cs,hcs⟩:∃c,Hv p j t false=c:=⟨_,rfl⟩;rw [bQ] at Dd;have HT:Hid (aC t=ct):=bQ;have HS:Hid (Hv p j t false=cs):=hcs;have HG:Hid (ib w0.heap.size w0 w1 p (xY s)∧Jn w1 j p l.length (BI s) false∧bG w w1∧w0.heap.size≤j∧w0.heap.size≤w1.heap.size):=⟨hg,hjn,hk,Nat.le_trans HNW.out hj,hg.size⟩;have HKJ:Hid (∀i q c a d,Jn w i q c a d→Jn w1 i q c a d):=hkj;obtain ⟨n,hn⟩:∃n,l.length=n:=⟨_,rfl⟩;rw [hn] at Dd ⊢;clear hg hjn hk hkj hrow ho bQ hcs hr hsz hsc hj hn hV;go_wp2_with fail
  refine Dd.mono ?_;rintro e w2 ⟨rfl,hb2⟩;obtain ⟨z1,W3,hW3,AR,uk⟩:=uE w2 t ct HT.out;have dR:Hid (Below w1.heap.size w1 W3):=hb2.trans (uk.mono hb2.size);clear Dd hb2 uk;go_upto_region 5 with (show wpList _ _ _ ({dst:=_,op:=Op.store 39 _ _,type:=_,pos:=_,after:=_,guard:=_}::_) _ _;refine eE z1 HT.out rfl _ _ rfl rfl rfl ?_)
  try rw [hW3]
  clear z1 hW3;generalize w2.heap.size=B at *;go_wp2_with (first | (show wpList _ _ _ ({dst:=_,op:=Op.load 39 _,type:=_,pos:=_,after:=_,guard:=_}::_) _ _;refine pV AR HT.out _ rfl rfl rfl ?_) | (show wpList _ _ _ ({dst:=_,op:=Op.build 94 _,type:=_,pos:=_,after:=_,guard:=_}::_) _ _;refine bSv HT.out HS.out rfl _ _ _ rfl rfl rfl rfl ?_))
  refine bodyPost_ret (bV rfl _ _) rfl ?_;have Dl:=aa W3 (.cells cs 94);have UA:=dR.out.trans (Dl.mono dR.out.size);obtain ⟨hg,hjn,hk,hjN,hw⟩:=HG.out;refine ⟨W3.heap.size,j,rfl,Jr.Dk.ib.later hg UA,?_,?_,hjN,Nat.le_trans hw dR.out.size,hk.trans (bG.bb UA),fun i q c a d hi=>(HKJ.out i q c a d hi).later UA⟩
  ·rw [EI.out];exact hjn.later UA
  ·rw [←HS.out];exact heap_alloc_last W3 _
/- The face. -/
theorem TM (hV:Vs w0) (h:ib w0.heap.size w0 w p s) (dY:s.log.length+2048≤5864062014805) (hb:yT s=false):
  Calls prog 6 #[.pointer (some ⟨p,0,none⟩)] w fun e w'=>e=.returned (.tuple #[.pointer none,.int .i64 11])∧ib w0.heap.size w0 w' p (xY s)∧bG w w':=by
 have ho:=KX hV h dY hb;clear h dY hb;go_enter func6,ntmps6;go_wp2_with fail
 refine ho.mono ?_;rintro e w1 ⟨rfl,hg,hk⟩;have hn:=ek 11 J5 w1 (hV.later hg.below).er;have HG:Hid (ib w0.heap.size w0 w1 p (xY s)∧bG w w1):=⟨hg,hk⟩;obtain ⟨v,hv⟩:∃v,tK 11 J5=v:=⟨_,rfl⟩;rw [hv] at hn ⊢;clear hg hk ho hv;go_wp2_with fail
 refine hn.mono ?_;rintro e w2 ⟨rfl,hb2⟩;go_wp2_with fail
 refine bodyPost_ret (bV rfl _ _) rfl ?_;exact ⟨rfl,HG.out.1.later hb2,HG.out.2.trans (bG.bb hb2)⟩
theorem Opd.later {w0 w w' w2:World} {p:Nat} {s:St} {S j:Nat} {t:Tr} (h:Opd w0 w w' p s S j t) (hb:Below w'.heap.size w' w2):Opd w0 w w2 p s S j t:=
 ⟨h.go.later hb,h.jn.later hb,h.sv.later hb,h.jN,h.sN,h.kp.trans (bG.bb hb),fun i q c a d hi=>(h.kj i q c a d hi).later hb⟩
theorem Ii (hV:Vs w0) (h:ib w0.heap.size w0 w p s) (dY:s.log.length+2048≤5864062014805) (hb:yT s=true) (hr:vu j6 (zZ s)=some t) (hsz:∀X∈zZ s,X.size≤5865):
  Calls prog 6 #[.pointer (some ⟨p,0,none⟩)] w fun e w'=>∃S j,e=.returned (.tuple #[.pointer (some ⟨S,0,none⟩),.int .i64 0])∧Opd w0 w w' p s S j t:=by
 have ho:=KW hV h dY hb hr hsz;clear h dY hb hr hsz;go_enter func6,ntmps6;go_wp2_with fail
 refine ho.mono ?_;rintro e w1 ⟨S,j,rfl,hO⟩;have hn:=ek 0 J5 w1 (hV.later hO.go.below).er;have HO:Hid (Opd w0 w w1 p s S j t):=hO;rw [show tK 0 J5=.nilIface from rfl] at hn;clear hO ho;go_wp2_with fail
 refine hn.mono ?_;rintro e w2 ⟨rfl,hb2⟩;go_wp2_with fail
 refine bodyPost_ret (bV rfl _ _) rfl ?_;exact ⟨S,j,rfl,HO.out.later hb2⟩
end
open Rs (bM ps Tb cq ah)
variable {t:Tr} {J L:List Int} {ops:Array Oper} {o:Oper} {a:Act} {w:World} {Q:Exit→Act→World→Prop} {c:Array Value}
theorem T5 (li:List It):kU li=(li.map T4).flatMap Wi.mW:=by
 unfold kU;rw [List.flatMap_map];rfl
theorem ado {r:Int×(List (Int×Int)×(List (Int×Int)×List ((Int×Int)×((Int×Int)×(Int×Int)))))} (h:Wi.gR r=true):Wi.gM (Wi.mR r)=true:=by
 unfold Wi.gM Wi.mR;rw [if_pos rfl];dsimp only;rw [h];rfl
/- A step's message as the wire's; its bytes. -/
def stM (t:Tr) (L J:List Int):Wi.lZ:=Wi.mR (rW (mS t (L,J)))
def K0 (t:Tr) (L J:List Int):ByteArray:=Wi.EH (stM t L J)
theorem Cm (h0:b_ t L J=0):Wi.gM (stM t L J)=true:=ado (Kd (j9 h0))
theorem OX (h0:b_ t L J=0):mS t (L,J)=(rZ t L J,(fx t L J,(bO t L J,fY t L J))):=by
 unfold rZ fx bO fY mS;rw [if_pos h0,if_pos h0,if_pos h0,if_pos h0]
theorem Io {X Y:World} {a1 a2 a3:Option Addr} {k1 k2 k3:Nat} (h0:b_ t L J=0) (g1:Y.ownsRow X.heap.size 113 2 (.slice a1 (fx t L J).length k1) (fx t L J).length (ps (fx t L J)))
  (g2:Y.ownsRow X.heap.size 113 2 (.slice a2 (bO t L J).length k2) (bO t L J).length (ps (bO t L J))) (g3:Y.ownsRow X.heap.size 103 6 (.slice a3 (fY t L J).length k3) (fY t L J).length (kU (fY t L J))):Wi.MR Y (stM t L J) a1 a2 a3:=by
 have n:=Wi.Yl (Cm h0);have e:=OX h0;unfold stM at n ⊢;rw [e] at n ⊢;refine ⟨Wi.Ac (f:=Wi.iI) (fun _=>rfl) g1,Wi.Ac (f:=Wi.iI) (fun _=>rfl) g2,?_,n.1,n.2.1,n.2.2.1,n.2.2.2⟩;have e3:((fY t L J).map T4).length=(fY t L J).length:=List.length_map ..;refine Wi.Ac (f:=Wi.mW) (l:=(fY t L J).map T4) (b:=X.heap.size) (T:=103) (cap:=k3) (fun _=>rfl) ?_;rw [e3,←T5];exact g3
abbrev ve:ByteArray:={data:=#[116,104,101,32,98,97,116,99,104]}
theorem gJ (t:Tr) (k b:ByteArray):(dE t k b).size=238:=by
 have:=iT t;simp [dE,M6]
theorem qa (t:Tr) (k b:ByteArray):(dE t k b).all (·.oneCell')=true:=by
 have h:=j5 t;rw [←Array.all_toList] at h;unfold dE M6;rw [List.all_toArray,List.all_append,h];rfl
def iM (w:World) (K:Nat) (cs:Array Value):Prop:=w.heap[K]? =some (.cells cs 126 (0,0))
theorem vA {fn:Func} {p t:Tmp} (hf:fn.results=#[.cell p 126,.tmp t]) (tmps:Array Value) (W:World) (K:Nat) (cs:Array Value) (hp:tmps[p]? =some (.pointer (some ⟨K,0,none⟩))) (hk:iM W K cs) (hc:cs.size=238):
  (results fn tmps).run prog W=.ok (.tuple #[.agg cs,tmps.getD t undef]) W:=by
 have h:=run_loadVar_row W K _ 126 _ _ _ hk underlying126 rfl (by rw [hc];exact qz);simp [results,hf,hp,asAddr,h]
theorem bSt {rest:List Oper} {k b:ByteArray} {ct:Array Value} (ht:aC t=ct) (hc:dE t k b=c) (hg:o.guard=none) (x0 x1 x2:Operand) (ho:o.op=.build 126 #[(0,x0),(1,x1),(2,x2)])
  (h0:a.eval x0=.agg ct) (h1:a.eval x1=.string k) (h2:a.eval x2=.string b) (kk:wpList prog ops Q rest (a.put o.dst (.agg c)) w):wpList prog ops Q (o::rest) a w:=by
 subst ht hc;refine wpList_buildTo hg 126 _ ho _ rfl (dE t k b) ?_ kk
 have e1:((#[(0,x0),(1,x1),(2,x2)]:Array (Nat×Operand)).map fun (i,x)=>(i,a.eval x)).toList=[(0,.agg (aC t)),(1,.string k),(2,.string b)]:=by
  simp [h0,h1,h2]
 exact (congrArg (prog.built 126) e1).trans (Rb t k b)
theorem bSz {rest:List Oper} (hc:dE (tz 0) ⟨#[]⟩ ⟨#[]⟩=c) (hg:o.guard=none) (ho:o.op=.build 126 #[]) (kk:wpList prog ops Q rest (a.put o.dst (.agg c)) w):wpList prog ops Q (o::rest) a w:=by
 subst hc;exact wpList_buildTo hg 126 #[] ho _ rfl _ ((congrArg (prog.built 126) (by simp)).trans LR) kk
/- The arguments, boxed, and the answer's place. -/
structure PB (w W:World) (B C K:Nat) (t:Tr) (aL aJ:Option Addr) (nL nJ cL cJ:Nat) (ks:Array Value):Prop where
 tb:TB w W B C t aL aJ nL nJ cL cJ
 re:iM W K ks
 ge:w.heap.size≤K
section
variable {w W W':World} {B C K:Nat} {t:Tr} {aL aJ:Option Addr} {nL nJ cL cJ:Nat} {ks:Array Value}
theorem PB.later (h:PB w W B C K t aL aJ nL nJ cL cJ ks) (hb:Below W.heap.size W W'):PB w W' B C K t aL aJ nL nJ cL cJ ks:=⟨h.tb.later hb,Wi.aQ h.re hb,h.ge⟩
theorem PB.new (w:World) (t:Tr) (aL aJ:Option Addr) (nL nJ cL cJ:Nat):PB w (((w.alloc (.cells (aC t) 39)).alloc (.cells #[.slice aL nL cL,.slice aJ nJ cJ] 43)).alloc (.cells zeroCells126 126)) w.heap.size (w.heap.size+1) (w.heap.size+2) t aL aJ nL nJ cL cJ (dE (tz 0) ⟨#[]⟩ ⟨#[]⟩):=by
 rw [zH];have h1:=TB.new w t aL aJ nL nJ cL cJ;have hs:((w.alloc (.cells (aC t) 39)).alloc (.cells #[.slice aL nL cL,.slice aJ nJ cJ] 43)).heap.size=w.heap.size+2:=by rw [World.size_alloc,World.size_alloc]
 have hb:=aa ((w.alloc (.cells (aC t) 39)).alloc (.cells #[.slice aL nL cL,.slice aJ nJ cJ] 43)) (.cells (dE (tz 0) ⟨#[]⟩ ⟨#[]⟩) 126);have hl:=heap_alloc_last ((w.alloc (.cells (aC t) 39)).alloc (.cells #[.slice aL nL cL,.slice aJ nJ cJ] 43)) (.cells (dE (tz 0) ⟨#[]⟩ ⟨#[]⟩) 126);rw [hs] at hl;exact ⟨h1.later hb,hl,by omega⟩
theorem PB.fin (h:PB w W B C K t aL aJ nL nJ cL cJ ks) (cs:Array Value):iM (W.setRow K cs) K cs∧Below w.heap.size w (W.setRow K cs):=⟨Rt.ai h.re cs,Rt.ag h.ge h.tb.aK cs⟩
end
set_option maxRecDepth 100000 in
theorem Fz (t:Tr) (aL aJ:Option Addr) (cL cJ:Nat) (L J:List Int) (w:World) (sD:Tb w) (lL:L.length<1152921504606846976) (lJ:J.length<1152921504606846976) (hL:bM w aL L) (hJ:bM w aJ J) (h0:b_ t L J≠0):
  Calls prog 37 #[.agg (aC t),.agg #[.slice aL L.length cL,.slice aJ J.length cJ]] w fun e w'=>e=.returned (.tuple #[.agg (dE (tz 0) ⟨#[]⟩ ⟨#[]⟩),tK (b_ t L J) ve])∧Below w.heap.size w w':=by
 have hP:=PB.new w t aL aJ L.length J.length cL cJ;have hN:=fun W (hW:Below w.heap.size w W)=>v_ t aL aJ cL cJ L J W (sD.later hW) lL lJ (hL.later hW) (hJ.later hW)
 unfold gF at hN;have JU:Hid (∀{X Y:World} {vl vj vi},Ee X Y t L J vl vj vi→(∃a k,vl=.slice a (fx t L J).length k)∧(∃a k,vj=.slice a (bO t L J).length k)∧∃a k,vi=.slice a (fY t L J).length k):=fun h=>⟨ah h.left,ah h.join,ah h.item⟩
 obtain ⟨n,hn⟩:∃n,cZ t L J=n:=⟨_,rfl⟩;obtain ⟨cn,f_⟩:∃c,aC n=c:=⟨_,rfl⟩;have HC:Hid (aC n=cn):=f_;obtain ⟨E,hE⟩:∃e,b_ t L J=e:=⟨_,rfl⟩;obtain ⟨p,hp⟩:∃e,rZ t L J=e:=⟨_,rfl⟩;obtain ⟨nl,ru⟩:∃l,(fx t L J).length=l:=⟨_,rfl⟩;obtain ⟨nj,ow⟩:∃l,(bO t L J).length=l:=⟨_,rfl⟩;obtain ⟨ni,hni⟩:∃l,(fY t L J).length=l:=⟨_,rfl⟩;obtain ⟨ct,bQ⟩:∃c,aC t=c:=⟨_,rfl⟩;have HT:Hid (aC t=ct):=bQ;simp only [hn,f_,hE,hp,bQ] at hN;simp only [ru,ow,hni] at JU;rw [hE] at h0 ⊢;obtain ⟨NL,oL⟩:∃x,L.length=x:=⟨_,rfl⟩;obtain ⟨NJ,pK⟩:∃x,J.length=x:=⟨_,rfl⟩;rw [oL,pK] at hP ⊢;simp only [oL,pK] at hN;have HN:Hid _:=hN;clear hn f_ hE hp ru ow hni bQ oL pK sD lL lJ hL hJ hN;have hd:(E !=0)=true:=by simpa using h0
 clear h0;obtain ⟨cz,fW⟩:∃c,dE (tz 0) ⟨#[]⟩ ⟨#[]⟩=c:=⟨_,rfl⟩;have HZ:Hid (dE (tz 0) ⟨#[]⟩ ⟨#[]⟩=cz):=fW;clear fW;go_enter func37,ntmps37;go_upto_region 1 with (fail)
 generalize ((w.alloc (.cells (aC t) 39)).alloc (.cells #[.slice aL NL cL,.slice aJ NJ cJ] 43)).alloc (.cells zeroCells126 126)=w1 at *;obtain ⟨K,hK⟩:∃K,w.heap.size+2=K:=⟨_,rfl⟩;obtain ⟨C,hC⟩:∃K,w.heap.size+1=K:=⟨_,rfl⟩;obtain ⟨B,hB⟩:∃K,w.heap.size=K:=⟨_,rfl⟩;rw [hK,hC,hB] at hP;try rw [hK,hC,hB]
 have HP:Hid (PB w w1 B C K t aL aJ NL NJ cL cJ (dE (tz 0) ⟨#[]⟩ ⟨#[]⟩)):=hP;have jT:=hP.tb.tr;obtain ⟨d0,d1⟩:=hP.tb.bt.cells;have h1:=HN.out w1 hP.tb.aK;clear hK hC hB hP HN;go_wp2_with (show wpList _ _ _ ({dst:=_,op:=Op.load 39 _,type:=_,pos:=_,after:=_,guard:=_}::_) _ _;refine pV jT HT.out _ rfl rfl rfl ?_)
 refine h1.mono ?_;rintro r w7 ⟨⟨vl,vj,vi,rfl,oK⟩,iK⟩;obtain ⟨⟨e1,f1,rfl⟩,⟨e2,f2,rfl⟩,⟨e3,f3,rfl⟩⟩:=JU.out oK;obtain ⟨t1,t2,W8,hW,tT,tR,tB⟩:=cM w7 n cn #[.int .i64 p,.slice e1 nl f1,.slice e2 nj f2,.slice e3 ni f3] HC.out;have L5:Hid (PB w W8 B C K t aL aJ NL NJ cL cJ (dE (tz 0) ⟨#[]⟩ ⟨#[]⟩)):=HP.out.later (iK.trans (tB.mono iK.size));clear h1 jT d0 d1 oK tB iK HP JU;go_upto_region 2 with (first | (show wpList _ _ _ ({dst:=_,op:=Op.store 39 _ _,type:=_,pos:=_,after:=_,guard:=_}::_) _ _;refine eE t1 HC.out rfl _ _ rfl rfl rfl ?_) | (show wpList _ _ _ ({dst:=_,op:=Op.store 54 _ _,type:=_,pos:=_,after:=_,guard:=_}::_) _ _;refine gN cS (cs:=cQ) bw t2 _ rfl (kx _ _ _ _ _ _ _ _ _ _) rfl _ _ rfl rfl rfl ?_))
 clear t1 t2 hW tT tR;generalize w7.heap.size=T at *;have hu:=lx E ve W8;obtain ⟨ev,ox⟩:∃v,tK E ve=v:=⟨_,rfl⟩;have HEV:Hid (tK E ve=ev):=ox;rw [ox] at hu;clear ox;have hK:=L5.out.re;rw [HZ.out] at hK;have h9:=L5.out.fin cz;have HF:Hid (iM (W8.setRow K cz) K cz∧Below w.heap.size w (W8.setRow K cz)):=h9;have oF:Hid (cz.size=238∧cz.all (·.oneCell')=true):=⟨by rw [←HZ.out];exact gJ _ _ _,by rw [←HZ.out];exact qa _ _ _⟩;clear h9 L5;go_wp2_with (first | (show wpList _ _ _ ({dst:=_,op:=Op.build 126 _,type:=_,pos:=_,after:=_,guard:=_}::_) _ _;refine bSz HZ.out rfl rfl ?_))
 refine hu.mono ?_;rintro r W8 ⟨rfl,rfl⟩;go_wp2_with (show wpList _ _ _ ({dst:=_,op:=Op.store 126 _ _,type:=_,pos:=_,after:=_,guard:=_}::_) _ _;refine gN qz (cs:=cz) oF.out.1 hK cz oF.out.1 oF.out.2 rfl _ _ rfl rfl rfl ?_)
 refine bodyPost_ret (vA (p:=4) (t:=5) rfl _ _ K cz rfl HF.out.1 oF.out.1) rfl ?_;exact ⟨by rw [HEV.out,HZ.out];rfl,HF.out.2⟩
end Go.Proofs.YtanaapfobpgibaaGreatDoor
