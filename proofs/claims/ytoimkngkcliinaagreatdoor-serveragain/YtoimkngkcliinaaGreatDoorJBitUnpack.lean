/- BitUnpack, BitBack, BitRefA, BitRefB, BitRefC, joined. -/
import Derived.Test.YtoimkngkcliinaaGreatDoorJBitDone
namespace Go.Proofs.YtoimkngkcliinaaGreatDoor.Bt
open Go.RowKit Go.Maps
set_option linter.unusedVariables false
theorem Kept.toBelow {F:Nat→Prop} {w0 w w':World} (h:Below w0.heap.size w0 w) (hk:Kept F w w') (hF:∀k,F k→w0.heap.size≤k):Below w0.heap.size w0 w':=h.trans (hk.below h.size hF)
theorem tk_lt {T:List Bool} {ws:List Int} {c:Nat} {vs:List Nat} (h:tk T ws=some (c,vs)):c≤T.length∧vs.length=ws.length:=by
 have:=tk_le T ws 0 [] c vs (Nat.zero_le _) h
 simpa using this
set_option maxHeartbeats 2000000 in
set_option maxRecDepth 100000 in
theorem unpack_some (b o cp n:Nat) (ws:List Int) (T:List Bool) (s:ByteArray) (hn:ws.length=n) (hT:tb (bys s)=T) (w:World) (hl:n≤16777216) (hs:s.size<1125899906842624)
  (h1:∀i,i<n→w.cell? ⟨b,o+i,none⟩=some (.int .i64 (ws.getD i 0))):
  Calls Tryz.prog 350 #[.string s,.slice (some ⟨b,o,none⟩) n cp] w fun e w'=>∃v,e=.returned (.tuple #[v,.int .i64 (unE T ws)])∧w'.ownsRow (w.heap.size+1) 160 1 v (unL T ws).length (u64s (unL T ws))∧Below w.heap.size w w':=by
 obtain ⟨i0,hi,hz0,hz1,hz2⟩:=info_parts info64;have HN:Hid (ws.length=n):=hn;have HT:Hid (tb (bys s)=T):=hT;have HTL:Hid (T.length=8 * s.size):=by unfold Hid;rw [←hT,tb_length,bys_length]
 clear hn hT;go_enter Tryz.func350,Tryz.ntmps350;go_wp2_with fail
 refine (read_any s w).mono ?_;rintro e w1 ⟨rfl,rfl⟩;go_wp2_with fail
 go_loopw [7,16] (fun v i wr=>∃k:Nat,k≤n∧i=.int .i64 (k:Int)∧Below w.heap.size w wr∧w.heap.size+1≤wr.heap.size∧∃c vs,tk T (ws.take k)=some (c,vs)∧Rr wr w.heap.size c s∧wr.ownsRow (w.heap.size+1) 160 1 v vs.length (u64s vs)) (fun _ i _=>n - (intOf i).toNat)
 case atStart=>exact ⟨0,by omega,rfl,below1 _ _,by simp,0,[],rfl,Rr.new w s,World.ownsRow_nil _ _ _ _⟩
 case round=>
  obtain ⟨k,hk,rfl,hb,hsz,c,vs,htk,hr,hrow⟩:=hrel;have HB:Hid (Below w.heap.size w wr):=hb;have HR:Hid (Rr wr w.heap.size c s):=hr;have HROW:Hid (wr.ownsRow (w.heap.size+1) 160 1 u7 vs.length (u64s vs)):=hrow
  have HVL:Hid (vs.length=k):=by
   unfold Hid;have:=(tk_lt htk).2;rw [List.length_take,HN.out] at this;omega
  have HTK:Hid (tk T (ws.take k)=some (c,vs)):=htk;clear hr hrow htk;by_cases hkn:k<n
  ·have c0:=cell_later hb (h1 k hkn);have i1:(0:Int)≤(k:Int):=by omega
   have i2:(k:Int)<(n:Int):=by omega
   have HS:Hid (tk T (ws.take (k+1))=tks T (tk T (ws.take k)) (ws.getD k 0)):=tk_take T ws k (by rw [HN.out];exact hkn);obtain ⟨d,ed⟩:∃d,ws.getD k 0=d:=⟨_,rfl⟩;rw [ed] at c0 HS;clear h1 ed hb;by_cases hd:Gw d∧d≤((8 * s.size - c:Nat):Int)
   ·obtain ⟨⟨d1,d2⟩,d3⟩:=hd;obtain ⟨q,rfl⟩:∃q:Nat,d=(q:Int):=⟨d.toNat,by omega⟩;have HP:=take_yes w.heap.size c q s wr HR.out hs (by omega) (by omega) (by have:=HR.out.le;omega);rw [HT.out] at HP;obtain ⟨y,hy⟩:∃y,bv ((T.drop c).take q)=y:=⟨_,rfl⟩;rw [hy] at HP
    have HS2:Hid (tk T (ws.take (k+1))=some (c+q,vs++[y])):=by
     unfold Hid;rw [HS.out,HTK.out];unfold tks;simp only [];rw [if_pos ⟨d1,d2,by rw [HTL.out];exact d3⟩];simp [hy]
    clear d3 HS hy;go_wp2_with fail
    refine HP.mono ?_;rintro e w2 ⟨rfl,hr2,hkp⟩;have HR2:Hid (Rr w2 w.heap.size (c+q) s):=hr2;have HK2:Hid (Kept (fun k=>k=w.heap.size) wr w2):=hkp;have HO2:Hid (w2.ownsRow (w.heap.size+1) 160 1 u7 vs.length (u64s vs)):=hkp.row HROW.out (fun j hj e=>by have:=(HROW.out.lt j hj).1;omega);have hs2:w.heap.size+1≤w2.heap.size:=Nat.le_trans hsz hkp.size;clear hr2 hkp HP;go_wp2_with (at_builtin;refine wpList_append_lies _ rfl _ _ _ rfl (w.heap.size+1) 160 i0 _ 1 8 Tryz.underlying445 hi hz0 hz1 hz2 rfl (by omega) _ vs.length (u64s vs) rfl (HO2.out.alloc _) ⟨w2.heap.size,0,none⟩ 1 1 [.int .u64 (y:Int)] rfl rfl (cell_one_at _ _ _ _ rfl) (by simp [Value.oneCell']) (by omega) (by have:=HVL.out;unfold maxLen;omega) (by have:=HVL.out;omega) (by simp;omega) (w2.heap.size+1) (by simp) ?_;intro g3 cap3 w3 hown3 hgrow3 hat3 hlt3;have HG3:Hid ((w2.alloc (.cells #[.int .u64 (y:Int)] 160)).grownBy w3 u7.ownBlock):=hgrow3;have HO3:Hid (w3.ownsRow (w.heap.size+1) 160 1 (.slice (some ⟨g3,0,none⟩) (vs.length+1) cap3) (vs.length+1) (u64s vs++[.int .u64 (y:Int)])):=hown3;clear hown3 hgrow3 hat3 hlt3)
    go_roundw
    case rel=>
     have hfar:∀j,u7.ownBlock=some j→w.heap.size+1≤j:=fun j hj=>(HROW.out.lt j hj).1
     have k3:Kept (fun j=>u7.ownBlock=some j) w2 w3:=((Kept.refl _ w2).alloc _).grown HG3.out (fun j hj _=>hj);refine ⟨k+1,by omega,by go_num,?_,Nat.le_trans hs2 k3.size,c+q,vs++[y],HS2.out,HR2.out.kept k3 (fun e=>by have:=hfar _ e;omega),?_⟩
     ·exact Kept.toBelow (Kept.toBelow HB.out HK2.out (fun j hj=>by have hj':j=w.heap.size:=hj;omega)) k3 (fun j hj=>by have:=hfar j hj;omega)
     ·rw [u64s_snoc,List.length_append];exact HO3.out
    case measure=>simp [intOf];omega
   ·have HP:=take_no w.heap.size c s d wr HR.out hs hd
    have HE:Hid (tk T ws=none):=by
     refine tk_none T ws (k+1) ?_;rw [HS.out,HTK.out];unfold tks;simp only [];rw [if_neg];rintro ⟨e1,e2,e3⟩;exact hd ⟨⟨e1,e2⟩,by rw [HTL.out] at e3;exact e3⟩
    clear hd HS;go_wp2_with fail
    refine HP.mono ?_;rintro e w2 ⟨rfl,hw2⟩
    have HB2:Hid (Below w.heap.size w w2):=by
     rcases hw2 with rfl | rfl
     ·exact HB.out
     ·exact HB.out.drew
    clear hw2 HP;go_wp2_with fail
    go_ret2
    obtain ⟨e1,e2⟩:=un_bad HE.out;exact ⟨.slice none 0 0,by rw [e2];rfl,by rw [e1];exact World.ownsRow_nil _ _ _ _,HB2.out⟩
  ·have hkn':decide ((k:Int)<(n:Int))=false:=by simp;omega
   have e:ws.take k=ws:=List.take_of_length_le (by rw [HN.out];omega);rw [e] at HTK;clear e hb h1;have hdone:=done_any w.heap.size c s wr HR.out hs;rw [HT.out] at hdone;go_wp2_with fail
   refine hdone.mono ?_;rintro e w2 ⟨rfl,hb2⟩;have HB2:Hid (Below w.heap.size w w2):=Below.then HB.out hb2;have HO2:Hid (w2.ownsRow (w.heap.size+1) 160 1 u7 vs.length (u64s vs)):=(Kept.ofBelow (F:=fun _=>False) hb2).row HROW.out (fun _ _ h=>h);clear hb2 hdone
   cases hd:dn T c with
   | true=>
    have HD:Hid (dn T c=true):=hd;clear hd;go_wp2_with fail
    go_ret2
    obtain ⟨e1,e2⟩:=un_good HTK.out HD.out;exact ⟨u7,by rw [e2];rfl,by rw [e1];exact HO2.out,HB2.out⟩
   | false=>
    have HD:Hid (dn T c=false):=hd;clear hd;go_wp2_with fail
    go_ret2
    obtain ⟨e1,e2⟩:=un_open HTK.out HD.out;exact ⟨.slice none 0 0,by rw [e2];rfl,by rw [e1];exact World.ownsRow_nil _ _ _ _,HB2.out⟩
set_option maxHeartbeats 2000000 in
set_option maxRecDepth 100000 in
theorem unpack_none (a:Option Addr) (cp:Nat) (T:List Bool) (s:ByteArray) (hT:tb (bys s)=T) (w:World) (hs:s.size<1125899906842624):
  Calls Tryz.prog 350 #[.string s,.slice a 0 cp] w fun e w'=>∃v,e=.returned (.tuple #[v,.int .i64 (unE T [])])∧w'.ownsRow (w.heap.size+1) 160 1 v (unL T []).length (u64s (unL T []))∧Below w.heap.size w w':=by
 have hdone:=done_any w.heap.size 0 s _ (Rr.new w s) hs;rw [hT] at hdone;go_enter Tryz.func350,Tryz.ntmps350;go_wp2_with fail
 refine (read_any s w).mono ?_;rintro e w1 ⟨rfl,rfl⟩;go_wp2_with fail
 refine wp_loop_rounds 1 ?_;rw [rounds_succ];go_wp2_with fail
 refine hdone.mono ?_;rintro e w2 ⟨rfl,hb2⟩;have HB2:Hid (Below w.heap.size w w2):=Below.then (below1 _ _) hb2;clear hb2 hdone
 cases hd:dn T 0 with
 | true=>
  have HD:Hid (dn T 0=true):=hd;clear hd;go_wp2_with fail
  go_ret2
  obtain ⟨e1,e2⟩:=un_good (ws:=[]) (c:=0) (vs:=[]) rfl HD.out;exact ⟨.slice none 0 0,by rw [e2];rfl,by rw [e1];exact World.ownsRow_nil _ _ _ _,HB2.out⟩
 | false=>
  have HD:Hid (dn T 0=false):=hd;clear hd;go_wp2_with fail
  go_ret2
  obtain ⟨e1,e2⟩:=un_open (ws:=[]) (c:=0) (vs:=[]) rfl HD.out;exact ⟨.slice none 0 0,by rw [e2];rfl,by rw [e1];exact World.ownsRow_nil _ _ _ _,HB2.out⟩
theorem unpack_any (a:Option Addr) (cp n:Nat) (ws:List Int) (T:List Bool) (s:ByteArray) (hn:ws.length=n) (hT:tb (bys s)=T) (w:World) (hl:n≤16777216) (hs:s.size<1125899906842624) (h:RdI w a ws):
  Calls Tryz.prog 350 #[.string s,.slice a n cp] w fun e w'=>∃v,e=.returned (.tuple #[v,.int .i64 (unE T ws)])∧w'.ownsRow (w.heap.size+1) 160 1 v (unL T ws).length (u64s (unL T ws))∧Below w.heap.size w w':=by
 subst hn;by_cases h0:ws=[]
 ·subst h0;exact unpack_none a cp T s hT w hs
 ·obtain ⟨b,o,rfl,k1⟩:=h.spot h0;exact unpack_some b o cp ws.length ws T s rfl hT w hl hs k1
set_option maxRecDepth 4000
theorem tk_bits:∀(fs:List (Nat×Int)) (P Z:List Bool) (v0:List Nat),(∀f∈fs,okF f=true)→
  (fs.map (·.2)).foldl (tks (P++(bitsF fs++Z))) (some (P.length,v0))=some (P.length+(bitsF fs).length,v0++fs.map (·.1))
 | [],P,Z,v0,_=>by simp [bitsF]
 | (v,d)::fs,P,Z,v0,h=>by
  obtain ⟨d1,d2,d3⟩:=okF_width (h (v,d) (by simp));obtain ⟨q,rfl⟩:∃q:Nat,d=(q:Int):=⟨d.toNat,by omega⟩;have e:bitsF ((v,(q:Int))::fs)=bo v q++bitsF fs:=rfl;have d1':(1:Int)≤(q:Int):=d1;have d2':(q:Int)≤64:=d2;have d3':v<2^q:=d3;simp only [List.map_cons,List.foldl_cons];rw [e]
  have hstep:tks (P++(bo v q++bitsF fs++Z)) (some (P.length,v0)) (q:Int)=some (P.length+q,v0++[v]):=by
   unfold tks;simp only [];rw [if_pos ⟨d1',d2',by simp;omega⟩]
   have e2:((P++(bo v q++bitsF fs++Z)).drop P.length).take (q:Int).toNat=bo v q:=by
    rw [List.drop_left' rfl,List.append_assoc];exact List.take_left' (by simp)
   rw [e2,bv_bo,Nat.mod_eq_of_lt d3'];simp
  rw [hstep];have ih:=tk_bits fs (P++bo v q) Z (v0++[v]) (fun f hf=>h f (by simp [hf]));have e3:P++(bo v q++bitsF fs++Z)=P++bo v q++(bitsF fs++Z):=by simp
  rw [e3];rw [List.length_append,bo_length] at ih;rw [ih];simp;omega
theorem tk_all (fs:List (Nat×Int)) (Z:List Bool) (h:∀f∈fs,okF f=true):tk (bitsF fs++Z) (fs.map (·.2))=some ((bitsF fs).length,fs.map (·.1)):=by
 have:=tk_bits fs [] Z [] h
 simpa [tk] using this
theorem dn_pad (l:List Bool) (k:Nat):dn (l++List.replicate k false) l.length=decide (k<8):=by
 unfold dn;rw [List.drop_left' rfl,(bv_zero_iff (List.replicate k false)).2 (by simp)];simp
def b01 (l:List Bool):List Value:=l.map fun b:Bool=>Value.int .u8 (b.toNat:Int)
@[simp] theorem b01_length (l:List Bool):(b01 l).length=l.length:=by simp [b01]
theorem b01_append (a b:List Bool):b01 (a++b)=b01 a++b01 b:=by simp [b01]
theorem dec_toNat (x:Nat):((decide (x%2=1)).toNat:Int)=(x:Int)%2:=by
 have:x%2=0∨x%2=1:=by omega
 rcases this with h | h <;> simp [h] <;> omega
set_option maxHeartbeats 1000000 in
theorem rRight_yes (v q:Nat) (w:World) (hv:v<18446744073709551616) (h1:1≤q) (h2:q≤64):Calls Tryz.prog 104 #[.agg #[.int .u64 (v:Int),.int .i64 (q:Int)]] w fun e w'=>e=.returned (.bool (decide (v<2^q)))∧Below w.heap.size w w':=by
 have d1:decide ((q:Int)<1)=false:=by simp;omega
 have d2:decide ((64:Int)<(q:Int))=false:=by simp;omega
 go_enter Tryz.func104,Tryz.ntmps104;go_wp2_with fail
 go_loopw [3,4] (fun x i wr=>∃k:Nat,k≤q∧i=.int .i64 (k:Int)∧x=.int .u64 ((v/2^k:Nat):Int)∧wr=w.alloc (.cells #[.int .u64 (v:Int),.int .i64 (q:Int)] 162)) (fun _ i _=>q - (intOf i).toNat)
 case atStart=>exact ⟨0,by omega,rfl,by simp,rfl⟩
 case round=>
  obtain ⟨k,hk,rfl,rfl,rfl⟩:=hrel;by_cases hkn:k<q
  ·obtain ⟨y,hy⟩:∃y,v/2^k=y:=⟨_,rfl⟩;have HY:Hid (v/2^k=y):=hy;rw [hy];clear hy;have i2:(k:Int)<(q:Int):=by omega
   have hwq:IntKind.u64.wrap ((y:Int)/2)=(y:Int)/2:=by
    have:y≤v:=by rw [←HY.out];exact Nat.div_le_self _ _
    rw [IntKind.wrap_u64];omega
   go_wp2_with fail
   go_roundw
   case rel=>exact ⟨k+1,by omega,by go_num,by rw [Nat.pow_succ,←Nat.div_div_eq_div_mul,HY.out];simp,by first | rfl | trivial⟩
   case measure=>simp [intOf];omega
  ·have hkn':decide ((k:Int)<(q:Int))=false:=by simp;omega
   obtain rfl:k=q:=by omega
   go_wp2_with fail
   go_ret;exact ⟨ret_bool (div_zero_iff v k),below1 _ _⟩
theorem rRight_no (v:Nat) (d:Int) (w:World) (h:¬Gw d):Calls Tryz.prog 104 #[.agg #[.int .u64 (v:Int),.int .i64 d]] w fun e w'=>e=.returned (.bool false)∧Below w.heap.size w w':=by
 by_cases h1:1≤d
 ·have h2:64<d:=by unfold Gw at h;omega
  clear h;go_enter Tryz.func104,Tryz.ntmps104;go_wp2_with fail
  go_ret;exact ⟨rfl,below1 _ _⟩
 ·clear h;go_enter Tryz.func104,Tryz.ntmps104;go_wp2_with fail
  go_ret;exact ⟨rfl,below1 _ _⟩
theorem rRight_any (v:Nat) (d:Int) (w:World) (hv:v<18446744073709551616):Calls Tryz.prog 104 #[.agg #[.int .u64 (v:Int),.int .i64 d]] w fun e w'=>e=.returned (.bool (okF (v,d)))∧Below w.heap.size w w':=by
 by_cases h:Gw d
 ·obtain ⟨q,rfl⟩:∃q:Nat,d=(q:Int):=⟨d.toNat,by have:=h.1;omega⟩;have e:okF (v,(q:Int))=decide (v<2^q):=by simp [okF,gw_yes h]
  rw [e];have h1:=h.1;have h2:=h.2;exact rRight_yes v q w hv (by omega) (by omega)
 ·have e:okF (v,d)=false:=by simp [okF,gw_no h]
  rw [e];exact rRight_no v d w h
set_option maxHeartbeats 2000000 in
set_option maxRecDepth 100000 in
theorem rAdd_any (B v q n:Nat) (l:List Bool) (x:Value) (w:World) (h1:1≤q) (h2:q≤64) (hn:l.length=n) (hB:B≤w.heap.size) (hr:w.ownsRow B 5 1 x n (b01 l)) (hl:n≤1099511627776) (hv:v<18446744073709551616):
  Calls Tryz.prog 105 #[x,.agg #[.int .u64 (v:Int),.int .i64 (q:Int)]] w fun e w'=>∃x',e=.returned x'∧w'.ownsRow B 5 1 x' (n+q) (b01 (l++bo v q))∧Kept (fun k=>x.ownBlock=some k) w w'∧(x'.ownBlock=x.ownBlock∨∀k,x'.ownBlock=some k→w.heap.size≤k):=by
 obtain ⟨i0,hi,hz0,hz1,hz2⟩:=info_parts info8;have HN:Hid (l.length=n):=hn;have HR:Hid (w.ownsRow B 5 1 x n (b01 l)):=hr;clear hn hr;go_enter Tryz.func105,Tryz.ntmps105;go_wp2_with fail
 go_loopw [0,5] (fun x1 i wr=>∃j:Nat,j≤q∧i=.int .i64 ((j:Int) - 1)∧wr.ownsRow B 5 1 x1 (n+(q - j)) (b01 (l++bo (v/2^j) (q - j)))∧Kept (fun k=>x.ownBlock=some k) w wr∧(x1.ownBlock=x.ownBlock∨∀k,x1.ownBlock=some k→w.heap.size+1≤k)∧wr.cell? ⟨w.heap.size,0,none⟩=some (.int .u64 (v:Int))∧wr.cell? ⟨w.heap.size,1,none⟩=some (.int .i64 (q:Int))∧w.heap.size+1≤wr.heap.size) (fun _ i _=>(intOf i+1).toNat)
 case atStart=>exact ⟨q,Nat.le_refl _,by first | rfl | go_num,by simpa [bo] using HR.out.alloc _,(Kept.refl _ _).alloc _,.inl rfl,by simp [go_sem],by simp [go_sem],by simp⟩
 case round=>
  obtain ⟨j,hj,rfl,hrow,hkp,ho,c0,c1,hsz⟩:=hrel;have HROW:Hid (wr.ownsRow B 5 1 u0 (n+(q - j)) (b01 (l++bo (v/2^j) (q - j)))):=hrow;have HKP:Hid (Kept (fun k=>x.ownBlock=some k) w wr):=hkp;have HO:Hid (u0.ownBlock=x.ownBlock∨∀k,u0.ownBlock=some k→w.heap.size+1≤k):=ho;clear hrow hkp ho;by_cases hz:j=0
  ·subst hz;rw [show ((0:Nat):Int) - 1=-1 from rfl];go_wp2_with fail
   go_ret;refine ⟨u0,rfl,by simpa using HROW.out,HKP.out,?_⟩;rcases HO.out with e | e
   ·exact .inl e
   ·exact .inr fun k hk=>Nat.le_of_succ_le (e k hk)
  ·obtain ⟨i,rfl⟩:∃i,j=i+1:=⟨j - 1,by omega⟩;rw [show ((i+1:Nat):Int) - 1=(i:Int) by omega];have hi0:(0:Int)≤(i:Int):=by omega
   go_wp2_with fail
   go_loopw [6,7] (fun y kk wr'=>∃t:Nat,t≤i∧kk=.int .i64 (t:Int)∧y=.int .u64 ((v/2^t:Nat):Int)∧wr'=wr) (fun _ kk _=>i - (intOf kk).toNat)
   case atStart=>exact ⟨0,by omega,rfl,by simp,rfl⟩
   case round=>
    obtain ⟨t,ht,rfl,rfl,rfl⟩:=hrel;by_cases hti:t<i
    ·obtain ⟨y,hy⟩:∃y,v/2^t=y:=⟨_,rfl⟩;have HY:Hid (v/2^t=y):=hy;rw [hy];clear hy;have i2:(t:Int)<(i:Int):=by omega
     have hwq:IntKind.u64.wrap ((y:Int)/2)=(y:Int)/2:=by
      have:y≤v:=by rw [←HY.out];exact Nat.div_le_self _ _
      rw [IntKind.wrap_u64];omega
     go_wp2_with fail
     go_roundw
     case rel=>exact ⟨t+1,by omega,by go_num,by rw [Nat.pow_succ,←Nat.div_div_eq_div_mul,HY.out];simp,by first | rfl | trivial⟩
     case measure=>simp [intOf];omega
    ·have hti':decide ((t:Int)<(i:Int))=false:=by simp;omega
     obtain rfl:t=i:=by omega
     obtain ⟨y,hy⟩:∃y,v/2^t=y:=⟨_,rfl⟩;have HY:Hid (v/2^t=y):=hy;rw [hy];clear hy;obtain ⟨e,he⟩:∃e:Nat,y%2=e:=⟨_,rfl⟩;have HE:Hid (y%2=e):=he;have he2:(y:Int)%2=(e:Int):=by omega
     have he3:(e:Int)%256=(e:Int):=by omega
     clear he;have hHB:B≤wr.heap.size:=by have:=HKP.out.size;omega
     have hln:n+(q - (t+1))≤1099511627840:=by omega
     go_wp2_with (at_builtin;refine wpList_append_lies _ rfl _ _ _ rfl B 5 i0 _ 1 1 Tryz.underlying226 hi hz0 hz1 hz2 rfl (by omega) _ (n+(q - (t+1))) _ rfl (HROW.out.alloc _) ⟨wr.heap.size,0,none⟩ 1 1 [.int .u8 (e:Int)] rfl rfl (cell_one_at _ _ _ _ rfl) (by simp [Value.oneCell']) (by omega) (by unfold maxLen;omega) (by omega) (by simp;omega) (wr.heap.size+1) (by simp) ?_;intro g3 cap3 w3 hown3 hgrow3 hat3 hlt3;have HG3:Hid ((wr.alloc (.cells #[.int .u8 (e:Int)] 5)).grownBy w3 u0.ownBlock):=hgrow3;have HO3:Hid (w3.ownsRow B 5 1 (.slice (some ⟨g3,0,none⟩) (n+(q - (t+1))+1) cap3) (n+(q - (t+1))+1) (b01 (l++bo (v/2^(t+1)) (q - (t+1)))++[.int .u8 (e:Int)])):=hown3;have HA3:Hid (u0.ownBlock=some g3∨g3=wr.heap.size+1):=hat3;clear hown3 hgrow3 hat3 hlt3)
     go_roundw
     case rel=>
      have hnb:∀k,u0.ownBlock=some k→k≠w.heap.size:=fun k hk e=>by
       rcases HO.out with h | h
       ·have:=(HR.out.lt k (h ▸ hk)).2;omega
       ·have:=h k hk;omega
      have k3:Kept (fun k=>u0.ownBlock=some k) wr w3:=((Kept.refl _ wr).alloc _).grown HG3.out (fun j hj _=>hj);refine ⟨t,by omega,by go_num,?_,?_,?_,k3.cell c0 (fun e=>hnb _ e rfl),k3.cell c1 (fun e=>hnb _ e rfl),Nat.le_trans hsz k3.size⟩
      ·have e1:b01 (l++bo (v/2^t) (q - t))=b01 (l++bo (v/2^(t+1)) (q - (t+1)))++[.int .u8 (e:Int)]:=by
        rw [show q - t=(q - (t+1))+1 by omega,bo_one,HY.out,Nat.pow_succ,←Nat.div_div_eq_div_mul,HY.out,←List.append_assoc,b01_append]
        congr 1
        simp only [b01,List.map_cons,List.map_nil];rw [dec_toNat,he2]
       rw [e1,show n+(q - t)=n+(q - (t+1))+1 by omega];exact HO3.out
      ·refine HKP.out.trans k3 (fun k hk hu=>?_);rcases HO.out with h | h
       ·exact h ▸ hu
       ·have:=h k hu;omega
      ·rcases HA3.out with h | h
       ·rcases HO.out with h' | h'
        ·exact .inl (by rw [←h',h];rfl)
        ·exact .inr fun k hk=>by cases hk;exact h' g3 h
       ·exact .inr fun k hk=>by cases hk;show w.heap.size+1≤g3;omega
     case measure=>simp [intOf]
theorem conv_row {w:World} {B:Nat} {v:Value} {l:List Nat} {n:Nat} (hn:l.length=n) (h:w.ownsRow B 5 1 v n (u8s l)) (hlt:∀x∈l,x<256):(convert 226 9 v).run Tryz.prog w=.ok (.string (tx l)) w:=by
 subst hn;rcases h.2 with ⟨h0,hn⟩ | ⟨r,cap,cur,hv,_⟩
 ·subst h0;have hp:l=[]:=List.length_eq_zero_iff.1 hn;subst hp;rw [run_convert_bytes_string w 226 9 5 none 0 0 Tryz.underlying226 Tryz.underlying5 Tryz.underlying9];rfl
 ·subst hv
  have hc:=run_convert_bytes_back (P:=Tryz.prog) w 226 9 5 ⟨r,0,none⟩ cap (l.map UInt8.ofNat) Tryz.underlying226 Tryz.underlying5 Tryz.underlying9 (fun j hj=>by
   simp at hj;have e:((⟨r,0,none⟩:Addr).add j)=⟨r,j,none⟩:=by unfold Addr.add;split <;> simp_all
   rw [e,h.cellAt j (by omega)];have hlt:=hlt l[j] (List.getElem_mem hj)
   simp [u8s,hj,UInt8.toNat_ofNat'];omega)
  rw [List.length_map] at hc;exact hc
/- The first k bits of a row, noughts behind it, as a number. -/
def pv (t:List Bool) (k:Nat):Nat:=bv (t.take k) * 2^(k - min k t.length)
theorem pv_zero (t:List Bool):pv t 0=0:=by simp [pv,bv]
theorem pv_eight (t:List Bool):pv t 8=by8 t:=rfl
theorem pv_in (t:List Bool) (k:Nat) (h:k<t.length):pv t (k+1)=2 * pv t k+(t[k]).toNat:=by
 unfold pv;rw [List.take_succ_eq_append_getElem h,bv_append,Nat.min_eq_left (by omega),Nat.min_eq_left (by omega)];simp [bv];omega
theorem pv_out (t:List Bool) (k:Nat) (h:t.length≤k):pv t (k+1)=2 * pv t k:=by
 unfold pv;rw [List.take_of_length_le (by omega),List.take_of_length_le h,Nat.min_eq_right (by omega),Nat.min_eq_right h,show k+1 - t.length=(k - t.length)+1 by omega,Nat.pow_succ];rw [←Nat.mul_assoc,Nat.mul_comm]
theorem pv_lt (t:List Bool) (k:Nat):pv t k<2^k:=by
 unfold pv;have h:=bv_lt (t.take k);rw [List.length_take] at h;have e:2^k=2^(min k t.length) * 2^(k - min k t.length):=by rw [←Nat.pow_add,show min k t.length+(k - min k t.length)=k by omega]
 rw [e];exact Nat.mul_lt_mul_of_pos_right h (Nat.two_pow_pos _)
theorem pv_256 (t:List Bool) (k:Nat) (h:k≤7):pv t k<128:=Nat.lt_of_lt_of_le (pv_lt t k) (by have:=Nat.pow_le_pow_right (n:=2) (by decide) h;simpa using this)
set_option maxHeartbeats 2000000 in
set_option maxRecDepth 100000 in
theorem rBytes_some (r cap n:Nat) (l:List Bool) (w:World) (hn:l.length=n) (hl:n≤1099511627776) (hc:∀j,j<n→w.cell? ⟨r,j,none⟩=some (.int .u8 ((l.getD j false).toNat:Int))):
  Calls Tryz.prog 106 #[.slice (some ⟨r,0,none⟩) n cap] w fun e w'=>e=.returned (.string (tx (pk l)))∧Below w.heap.size w w':=by
 obtain ⟨i0,hi,hz0,hz1,hz2⟩:=info_parts info8;have HN:Hid (l.length=n):=hn;clear hn;go_enter Tryz.func106,Tryz.ntmps106;go_wp2_with fail
 go_loopw [3,4] (fun v i wr=>∃t:Nat,t≤(n+7)/8∧i=.int .i64 ((8 * t:Nat):Int)∧wr.ownsRow w.heap.size 5 1 v t (u8s (pkn l t))∧Below w.heap.size w wr) (fun _ i _=>n+8 - (intOf i).toNat)
 case atStart=>exact ⟨0,by omega,rfl,World.ownsRow_nil _ _ _ _,Below.refl _ _⟩
 case round=>
  obtain ⟨t,ht,rfl,hrow,hb⟩:=hrel;have HROW:Hid (wr.ownsRow w.heap.size 5 1 u3 t (u8s (pkn l t))):=hrow;have HB:Hid (Below w.heap.size w wr):=hb;clear hrow;obtain ⟨i,hi8⟩:∃i,8 * t=i:=⟨_,rfl⟩;have HI:Hid (8 * t=i):=hi8;rw [hi8];by_cases hin:i<n
  ·have i2:(i:Int)<(n:Int):=by omega
   have hcw:∀j,j<n→wr.cell? ⟨r,j,none⟩=some (.int .u8 ((l.getD j false).toNat:Int)):=fun j hj=>cell_later hb (hc j hj)
   have HCW:Hid _:=hcw;have ht2:t≤137438953473:=by omega
   clear hb hcw hc hi8;obtain ⟨T,hT⟩:∃T,l.drop i=T:=⟨_,rfl⟩;have hTl:T.length=n - i:=by rw [←hT,List.length_drop,HN.out]
   have HT:Hid (l.drop i=T∧T.length=n - i):=⟨hT,hTl⟩;clear hT hTl;go_wp2_with fail
   go_loopw [5,6] (fun y kk wr'=>∃k:Nat,k≤8∧kk=.int .i64 (k:Int)∧y=.int .u8 ((pv T k:Nat):Int)∧wr'=wr) (fun _ kk _=>8 - (intOf kk).toNat)
   case atStart=>exact ⟨0,by omega,rfl,by rw [pv_zero];rfl,rfl⟩
   case round=>
    obtain ⟨k,hk,rfl,rfl,rfl⟩:=hrel;by_cases hk8:k<8
    ·have k8:(k:Int)<8:=by omega
     have hp:=pv_256 T k (by omega);obtain ⟨y,hy⟩:∃y,pv T k=y:=⟨_,rfl⟩;have HY:Hid (pv T k=y):=hy;rw [hy] at hp ⊢;clear hy;have hw2:(y:Int) * 2%256=((2 * y:Nat):Int):=by omega
     have hw3:IntKind.u8.wrap ((y:Int) * 2)=((2 * y:Nat):Int):=by simp [IntKind.wrap,IntKind.bits,IntKind.signed];omega
     have hni:(n:Int) - (i:Int)=((n - i:Nat):Int):=by omega
     by_cases hkl:k<n - i
     ·have l1:(k:Int)<((n - i:Nat):Int):=by omega
      obtain ⟨sx,hsx⟩:∃sx,i+k=sx:=⟨_,rfl⟩
      have hik:IntKind.i64.wrap ((i:Int)+(k:Int))=(sx:Int):=by
       have:(i:Int)+(k:Int)=(sx:Int):=by omega
       rw [this];exact wrap64_nat sx (by omega)
      have hik2:(0:Int)≤(sx:Int):=by omega
      have hik3:(sx:Int)<(n:Int):=by omega
      have hcell:=HCW.out sx (by omega);have hbit:l.getD sx false=T.getD k false:=by rw [←HT.out.1,←hsx];simp
      have HS:Hid (pv T (k+1)=2 * y+(T.getD k false).toNat):=by
       have hkT:k<T.length:=by rw [HT.out.2];exact hkl
       have:=pv_in T k hkT;rw [HY.out] at this;unfold Hid;rw [this];simp [hkT]
      rw [hbit] at hcell;obtain ⟨e,he⟩:∃e:Nat,(T.getD k false).toNat=e:=⟨_,rfl⟩;have he1:e≤1:=by rw [←he];cases T.getD k false <;> simp
      rw [he] at hcell HS;have hw4:IntKind.u8.wrap (((2 * y:Nat):Int)+(e:Int))=((2 * y+e:Nat):Int):=by simp [IntKind.wrap,IntKind.bits,IntKind.signed];omega
      clear hbit he hsx;go_wp2_with fail
      go_roundw
      case rel=>exact ⟨k+1,by omega,by go_num,by rw [HS.out];simp,by first | rfl | trivial⟩
      case measure=>simp [intOf];omega
     ·have l1:decide ((k:Int)<((n - i:Nat):Int))=false:=by simp;omega
      have l2:decide (k<n - i)=false:=by simp;omega
      have HS:Hid (pv T (k+1)=2 * y):=by
       have:=pv_out T k (by rw [HT.out.2];omega);rw [HY.out] at this;exact this
      go_wp2_with fail
      go_roundw
      case rel=>exact ⟨k+1,by omega,by go_num,by rw [HS.out];simp,by first | rfl | trivial⟩
      case measure=>simp [intOf];omega
    ·obtain rfl:k=8:=by omega
     have HP:Hid (pv T 8=by8 (l.drop (8 * t))):=by unfold Hid;rw [pv_eight,HI.out,HT.out.1]
     obtain ⟨y,hy⟩:∃y,pv T 8=y:=⟨_,rfl⟩;rw [hy] at HP ⊢;clear hy;have hsz:=HB.out.size;go_wp2_with (at_builtin;refine wpList_append_lies _ rfl _ _ _ rfl w.heap.size 5 i0 _ 1 1 Tryz.underlying226 hi hz0 hz1 hz2 rfl (by omega) _ t _ rfl (HROW.out.alloc _) ⟨wr.heap.size,0,none⟩ 1 1 [.int .u8 (y:Int)] rfl rfl (cell_one_at _ _ _ _ rfl) (by simp [Value.oneCell']) (by omega) (by unfold maxLen;omega) (by omega) (by simp;omega) (wr.heap.size+1) (by simp) ?_;intro g3 cap3 w3 hown3 hgrow3 hat3 hlt3;have HG3:Hid ((wr.alloc (.cells #[.int .u8 (y:Int)] 5)).grownBy w3 u3.ownBlock):=hgrow3;have HO3:Hid (w3.ownsRow w.heap.size 5 1 (.slice (some ⟨g3,0,none⟩) (t+1) cap3) (t+1) (u8s (pkn l t)++[.int .u8 (y:Int)])):=hown3;clear hown3 hgrow3 hat3 hlt3)
     go_roundw
     case rel=>
      refine ⟨t+1,by have:=HI.out;omega,by have:=HI.out;rw [←this];go_num,?_,Below.grown (Below.more HB.out _) HG3.out (by simp;omega) (fun k hk=>(HROW.out.lt k hk).1)⟩;rw [pkn_succ,u8s_append,←HP.out];exact HO3.out
     case measure=>simp [intOf];omega
  ·have i2:decide ((i:Int)<(n:Int))=false:=by simp;omega
   have e:pkn l t=pk l:=by unfold pk;rw [HN.out];congr 1;omega
   have hcv:=conv_row (by simp) HROW.out (by rw [e];exact pk_lt l);rw [e] at hcv;clear hb hi8 e;go_wp2_with fail
   go_ret;exact ⟨rfl,HB.out⟩
set_option maxRecDepth 100000 in
theorem rBytes_nil (w:World):Calls Tryz.prog 106 #[.slice none 0 0] w fun e w'=>e=.returned (.string (tx (pk [])))∧Below w.heap.size w w':=by
 have hcv:=conv_row (w:=w) (B:=0) (v:=.slice none 0 0) (l:=[]) (n:=0) rfl (World.ownsRow_nil _ _ _ _) (by simp);go_enter Tryz.func106,Tryz.ntmps106;go_wp2_with fail
 refine wp_loop_rounds 1 ?_;rw [rounds_succ];go_wp2_with fail
 go_ret;exact ⟨rfl,Below.refl _ _⟩
theorem rBytes_any (B n:Nat) (l:List Bool) (x:Value) (w:World) (hn:l.length=n) (hl:n≤1099511627776) (h:w.ownsRow B 5 1 x n (b01 l)):
  Calls Tryz.prog 106 #[x] w fun e w'=>e=.returned (.string (tx (pk l)))∧Below w.heap.size w w':=by
 rcases h.2 with ⟨h0,h1⟩ | ⟨r,cap,cur,hv,_⟩
 ·subst h0;have:l=[]:=List.length_eq_zero_iff.1 (hn.trans h1);subst this;exact rBytes_nil w
 ·subst hv;refine rBytes_some r cap n l w hn hl (fun j hj=>?_);rw [h.cellAt j (by omega)];simp [b01,hn,hj]
def arr (y j:Nat):Array Value:=((List.range 8).map fun i=>Value.int .u8 (if i<j then 0 else ((decide (y/2^(7 - i)%2=1)).toNat:Int))).toArray
theorem b01_one (l:List Bool):∀u∈b01 l,u.oneCell'=true:=by
 intro u hu;simp only [b01,List.mem_map] at hu;obtain ⟨_,_,rfl⟩:=hu;rfl
theorem arr_end (y:Nat):arr y 0=(b01 (bo y 8)).toArray:=rfl
theorem arr_start (y:Nat):arr y 8=#[.int .u8 0,.int .u8 0,.int .u8 0,.int .u8 0,.int .u8 0,.int .u8 0,.int .u8 0,.int .u8 0]:=rfl
theorem arr_set (y j:Nat) (h:j≤7):(arr y (j+1)).setIfInBounds j (.int .u8 ((decide (y/2^(7 - j)%2=1)).toNat:Int))=arr y j:=by
 have:j=0∨j=1∨j=2∨j=3∨j=4∨j=5∨j=6∨j=7:=by omega
 rcases this with rfl | rfl | rfl | rfl | rfl | rfl | rfl | rfl <;> rfl
theorem arr_get (y j:Nat) (h:j≤7):(arr y (j+1))[j]? =some (.int .u8 0):=by
 have:j=0∨j=1∨j=2∨j=3∨j=4∨j=5∨j=6∨j=7:=by omega
 rcases this with rfl | rfl | rfl | rfl | rfl | rfl | rfl | rfl <;> rfl
set_option maxHeartbeats 2000000 in
set_option maxRecDepth 100000 in
theorem rBits_any (s:ByteArray) (w:World) (hs:s.size≤16777216):
  Calls Tryz.prog 107 #[.string s] w fun e w'=>∃v,e=.returned v∧w'.ownsRow w.heap.size 5 1 v (8 * s.size) (b01 (tb (bys s)))∧Below w.heap.size w w':=by
 obtain ⟨i0,hi,hz0,hz1,hz2⟩:=info_parts info8;go_enter Tryz.func107,Tryz.ntmps107;go_wp2_with fail
 go_loopw [3,4] (fun v i wr=>∃t:Nat,t≤s.size∧i=.int .i64 (t:Int)∧wr.ownsRow w.heap.size 5 1 v (8 * t) (b01 (tb ((bys s).take t)))∧Below w.heap.size w wr) (fun _ i _=>s.size - (intOf i).toNat)
 case atStart=>exact ⟨0,by omega,rfl,World.ownsRow_nil _ _ _ _,Below.refl _ _⟩
 case round=>
  obtain ⟨t,ht,rfl,hrow,hb⟩:=hrel;obtain ⟨W0,rfl⟩:∃W0,W0=wr:=⟨_,rfl⟩;have HROW:Hid (W0.ownsRow w.heap.size 5 1 u3 (8 * t) (b01 (tb ((bys s).take t)))):=hrow;have HB:Hid (Below w.heap.size w W0):=hb;clear hrow hb;by_cases hts:t<s.size
  ·have i2:(t:Int)<(s.size:Int):=by omega
   have i1:(0:Int)≤(t:Int):=by omega
   obtain ⟨y,hy⟩:∃y,(s[t]'hts).toNat=y:=⟨_,rfl⟩;have hy256:y<256:=by rw [←hy];exact UInt8.toNat_lt _
   have HY:Hid ((bys s).take (t+1)=(bys s).take t++[y]):=by
    have hlt:t<(bys s).length:=by rw [bys_length];exact hts
    have:=take_snoc (bys s) t 0 hlt;unfold Hid;rw [this,←hy,←bys_get s t hts];simp [hlt]
   go_wp2_with fail
   clear hy;go_loopw [5,7] (fun x kk wr'=>∃j:Nat,j≤8∧kk=.int .i64 ((j:Int) - 1)∧x=.int .u8 ((y/2^(8 - j):Nat):Int)∧wr'.heap[W0.heap.size]? =some (.cells (arr y j) 283)∧Below W0.heap.size W0 wr'∧wr'.heap.size=W0.heap.size+1) (fun _ kk _=>(intOf kk+1).toNat)
   case atStart=>exact ⟨8,by omega,rfl,by simp,by rw [arr_start];exact heap_alloc_new W0 _,below1 _ _,by simp⟩
   case round=>
    obtain ⟨j,hj,rfl,rfl,hblk,hbl,hsz⟩:=hrel;have HBLK:Hid (wr.heap[W0.heap.size]? =some (.cells (arr y j) 283)):=hblk;have HBL:Hid (Below W0.heap.size W0 wr):=hbl;have HSZ:Hid (wr.heap.size=W0.heap.size+1):=hsz;clear hblk hbl hsz;by_cases hj0:j=0
    ·subst hj0;rw [show ((0:Nat):Int) - 1=-1 from rfl];have HR2:Hid (wr.ownsRow w.heap.size 5 1 u3 (8 * t) (b01 (tb ((bys s).take t)))):=(Kept.ofBelow (F:=fun _=>False) HBL.out).row HROW.out (fun _ _ h=>h);have hnw:=World.news_of_block HBLK.out;rw [arr_end,List.toList_toArray] at hnw;have HNW:Hid _:=hnw;have hs1:=HSZ.out;have hs2:=HB.out.size;have HS1:Hid (w.heap.size≤wr.heap.size):=by unfold Hid;omega
     clear hnw hs1 hs2;go_wp2_with (at_builtin;refine wpList_append_lies _ rfl _ _ _ rfl w.heap.size 5 i0 _ 1 1 Tryz.underlying226 hi hz0 hz1 hz2 rfl (by omega) _ (8 * t) _ rfl HR2.out ⟨W0.heap.size,0,none⟩ 8 8 (b01 (bo y 8)) rfl (by simp) HNW.out (b01_one _) (by omega) (by unfold maxLen;omega) (by omega) HS1.out wr.heap.size rfl ?_;intro g3 cap3 w3 hown3 hgrow3 hat3 hlt3;have HG3:Hid (wr.grownBy w3 u3.ownBlock):=hgrow3;have HO3:Hid (w3.ownsRow w.heap.size 5 1 (.slice (some ⟨g3,0,none⟩) (8 * t+8) cap3) (8 * t+8) (b01 (tb ((bys s).take t))++b01 (bo y 8))):=hown3;clear hown3 hgrow3 hat3 hlt3)
     go_roundw
     case rel=>
      refine ⟨t+1,by omega,by go_num,?_,Below.grown (Below.then HB.out HBL.out) HG3.out HS1.out (fun k hk=>(HROW.out.lt k hk).1)⟩;rw [HY.out,tb_append,b01_append,show 8 * (t+1)=8 * t+8 by omega,show tb [y]=bo y 8 by simp [tb]];exact HO3.out
     case measure=>simp [intOf];omega
    ·obtain ⟨i,rfl⟩:∃i,j=i+1:=⟨j - 1,by omega⟩;rw [show ((i+1:Nat):Int) - 1=(i:Int) by omega];have hi0:(0:Int)≤(i:Int):=by omega
     have hi8:(i:Int)<8:=by omega
     obtain ⟨z,hz⟩:∃z,y/2^(8 - (i+1))=z:=⟨_,rfl⟩;have hz256:z<256:=by rw [←hz];exact Nat.lt_of_le_of_lt (Nat.div_le_self _ _) hy256
     have HZ:Hid (y/2^(7 - i)=z):=by unfold Hid;rw [←hz];congr 2;omega
     rw [hz];clear hz;obtain ⟨e,he⟩:∃e:Nat,z%2=e:=⟨_,rfl⟩;have he2:(z:Int)%2=(e:Int):=by omega
     have HE:Hid (((decide (y/2^(7 - i)%2=1)).toNat:Int)=(e:Int)):=by unfold Hid;rw [dec_toNat,HZ.out,he2]
     have hcell:wr.cell? ⟨W0.heap.size,i,none⟩=some (.int .u8 0):=by
      have:=arr_get y i (by omega);simp [World.cell?,HBLK.out,this]
     have hfr:wr.frozen? ⟨W0.heap.size,i,none⟩=false:=by simp [World.frozen?,HBLK.out]
     clear he;go_wp2_with fail
     go_roundw
     case rel=>
      refine ⟨i,by omega,by go_num,?_,?_,HBL.out.setCell (by simp) _,by simpa [World.setCell] using HSZ.out⟩
      ·have:y/2^(8 - i)=z/2:=by rw [show 8 - i=(7 - i)+1 by omega,Nat.pow_succ,←Nat.div_div_eq_div_mul,HZ.out]
       rw [this];simp
      ·rw [blk_set HBLK.out,←HE.out,arr_set y i (by omega)]
     case measure=>simp [intOf]
  ·have i2:decide ((t:Int)<(s.size:Int))=false:=by simp;omega
   obtain rfl:t=s.size:=by omega
   rw [List.take_of_length_le (by rw [bys_length];exact Nat.le_refl _)] at HROW;go_wp2_with fail
   go_ret;exact ⟨u3,rfl,HROW.out,HB.out⟩
end Go.Proofs.YtoimkngkcliinaaGreatDoor.Bt
