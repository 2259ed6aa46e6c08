/- BitUnpack, BitBack, BitRefA, BitRefB, BitRefE, joined. -/
import Derived.Test.YtanaapfobpgibaaGreatDoorJBitDone
open Go.Proofs.Tryz
set_option maxHeartbeats 2000000
namespace Go.Proofs.YtanaapfobpgibaaGreatDoor.Bt
open Go.RowKit Go.Maps
set_option linter.unusedVariables false
theorem Kept.toBelow {F:Nat→Prop} {w0 w w':World} (h:Below w0.heap.size w0 w) (hk:Kept F w w') (hF:∀k,F k→w0.heap.size≤k):Below w0.heap.size w0 w':=h.trans (hk.below h.size hF)
theorem fF {T:List Bool} {ws:List Int} {c:Nat} {vs:List Nat} (h:tk T ws=some (c,vs)):c≤T.length∧vs.length=ws.length:=by
 have:=VM T ws 0 [] c vs (Nat.zero_le _) h
 simpa using this
set_option maxRecDepth 100000 in
theorem B5 (b o cp n:Nat) (ws:List Int) (T:List Bool) (s:ByteArray) (hn:ws.length=n) (hT:tb (bA s)=T) (w:World) (hl:n≤16777216) (hs:s.size<1125899906842624)
  (h1:∀i,i<n→w.cell? ⟨b,o+i,none⟩=some (.int .i64 (ws.getD i 0))):
  Calls prog 263 #[.string s,.slice (some ⟨b,o,none⟩) n cp] w fun e w'=>∃v,e=.returned (.tuple #[v,.int .i64 (ML T ws)])∧w'.ownsRow (w.heap.size+1) 108 1 v (Hk T ws).length (oW (Hk T ws))∧Below w.heap.size w w':=by
 obtain ⟨i0,hi,hz0,hz1,hz2⟩:=info_parts YA;have HN:Hid (ws.length=n):=hn;have HT:Hid (tb (bA s)=T):=hT;have HTL:Hid (T.length=8 * s.size):=by unfold Hid;rw [←hT,bT,a8]
 clear hn hT;go_enter func263,ntmps263;go_wp2_with fail
 refine (gj s w).mono ?_;rintro e w1 ⟨rfl,rfl⟩;go_wp2_with fail
 go_loopw [7,16] (fun v i wr=>∃k:Nat,k≤n∧i=.int .i64 (k:Int)∧Below w.heap.size w wr∧w.heap.size+1≤wr.heap.size∧∃c vs,tk T (ws.take k)=some (c,vs)∧Rr wr w.heap.size c s∧wr.ownsRow (w.heap.size+1) 108 1 v vs.length (oW vs)) (fun _ i _=>n - (intOf i).toNat)
 case atStart=>exact ⟨0,by omega,rfl,aX _ _,by simp,0,[],rfl,Rr.new w s,World.ownsRow_nil _ _ _ _⟩
 case round=>
  obtain ⟨k,hk,rfl,hb,hsz,c,vs,jo,hr,hrow⟩:=hrel;have HB:Hid (Below w.heap.size w wr):=hb;have HR:Hid (Rr wr w.heap.size c s):=hr;have dF:Hid (wr.ownsRow (w.heap.size+1) 108 1 u7 vs.length (oW vs)):=hrow
  have HVL:Hid (vs.length=k):=by
   unfold Hid;have:=(fF jo).2;rw [List.length_take,HN.out] at this;omega
  have rA:Hid (tk T (ws.take k)=some (c,vs)):=jo;clear hr hrow jo;by_cases cE:k<n
  ·have c0:=cell_later hb (h1 k cE);have i1:(0:Int)≤(k:Int):=by omega
   have i2:(k:Int)<(n:Int):=by omega
   have HS:Hid (tk T (ws.take (k+1))=oY T (tk T (ws.take k)) (ws.getD k 0)):=S4 T ws k (by rw [HN.out];exact cE);obtain ⟨d,ed⟩:∃d,ws.getD k 0=d:=⟨_,rfl⟩;rw [ed] at c0 HS;clear h1 ed hb;by_cases hd:Gw d∧d≤((8 * s.size - c:Nat):Int)
   ·obtain ⟨⟨d1,d2⟩,d3⟩:=hd;obtain ⟨q,rfl⟩:∃q:Nat,d=(q:Int):=⟨d.toNat,by omega⟩;have HP:=Cg w.heap.size c q s wr HR.out hs (by omega) (by omega) (by have:=HR.out.le;omega);rw [HT.out] at HP;obtain ⟨y,hy⟩:∃y,bv ((T.drop c).take q)=y:=⟨_,rfl⟩;rw [hy] at HP
    have eW:Hid (tk T (ws.take (k+1))=some (c+q,vs++[y])):=by
     unfold Hid;rw [HS.out,rA.out];unfold oY;simp only [];rw [if_pos ⟨d1,d2,by rw [HTL.out];exact d3⟩];simp [hy]
    clear d3 HS hy;go_wp2_with fail
    refine HP.mono ?_;rintro e w2 ⟨rfl,hr2,EB⟩;have El:Hid (Rr w2 w.heap.size (c+q) s):=hr2;have ur:Hid (Kept (fun k=>k=w.heap.size) wr w2):=EB;have SE:Hid (w2.ownsRow (w.heap.size+1) 108 1 u7 vs.length (oW vs)):=EB.row dF.out (fun j hj e=>by have:=(dF.out.lt j hj).1;omega);have hs2:w.heap.size+1≤w2.heap.size:=Nat.le_trans hsz EB.size;clear hr2 EB HP;go_wp2_with (at_builtin;refine wpList_append_lies _ rfl _ _ _ rfl (w.heap.size+1) 108 i0 _ 1 8 underlying348 hi hz0 hz1 hz2 rfl (by omega) _ vs.length (oW vs) rfl (SE.out.alloc _) ⟨w2.heap.size,0,none⟩ 1 1 [.int .u64 (y:Int)] rfl rfl (fN _ _ _ _ rfl) (by simp [Value.oneCell']) (by omega) (by have:=HVL.out;unfold maxLen;omega) (by have:=HVL.out;omega) (by simp;omega) (w2.heap.size+1) (by simp) ?_;intro g3 jb w3 tF mZ Ln PC;have oT:Hid ((w2.alloc (.cells #[.int .u64 (y:Int)] 108)).grownBy w3 u7.ownBlock):=mZ;have RP:Hid (w3.ownsRow (w.heap.size+1) 108 1 (.slice (some ⟨g3,0,none⟩) (vs.length+1) jb) (vs.length+1) (oW vs++[.int .u64 (y:Int)])):=tF;clear tF mZ Ln PC)
    go_roundw
    case rel=>
     have abk:∀j,u7.ownBlock=some j→w.heap.size+1≤j:=fun j hj=>(dF.out.lt j hj).1
     have k3:Kept (fun j=>u7.ownBlock=some j) w2 w3:=((Kept.refl _ w2).alloc _).grown oT.out (fun j hj _=>hj);refine ⟨k+1,by omega,by go_num,?_,Nat.le_trans hs2 k3.size,c+q,vs++[y],eW.out,El.out.kept k3 (fun e=>by have:=abk _ e;omega),?_⟩
     ·exact Kept.toBelow (Kept.toBelow HB.out ur.out (fun j hj=>by have hj':j=w.heap.size:=hj;omega)) k3 (fun j hj=>by have:=abk j hj;omega)
     ·rw [J3,List.length_append];exact RP.out
    case measure=>simp [intOf];omega
   ·have HP:=Ht w.heap.size c s d wr HR.out hs hd
    have HE:Hid (tk T ws=none):=by
     refine S6 T ws (k+1) ?_;rw [HS.out,rA.out];unfold oY;simp only [];rw [if_neg];rintro ⟨e1,e2,e3⟩;exact hd ⟨⟨e1,e2⟩,by rw [HTL.out] at e3;exact e3⟩
    clear hd HS;go_wp2_with fail
    refine HP.mono ?_;rintro e w2 ⟨rfl,hw2⟩
    have bm:Hid (Below w.heap.size w w2):=by
     rcases hw2 with rfl | rfl
     ·exact HB.out
     ·exact HB.out.drew
    clear hw2 HP;go_wp2_with fail
    go_ret2
    obtain ⟨e1,e2⟩:=Xu HE.out;exact ⟨.slice none 0 0,by rw [e2];rfl,by rw [e1];exact World.ownsRow_nil _ _ _ _,bm.out⟩
  ·have iX:decide ((k:Int)<(n:Int))=false:=by simp;omega
   have e:ws.take k=ws:=List.take_of_length_le (by rw [HN.out];omega);rw [e] at rA;clear e hb h1;have hdone:=xa w.heap.size c s wr HR.out hs;rw [HT.out] at hdone;go_wp2_with fail
   refine hdone.mono ?_;rintro e w2 ⟨rfl,hb2⟩;have bm:Hid (Below w.heap.size w w2):=Below.then HB.out hb2;have SE:Hid (w2.ownsRow (w.heap.size+1) 108 1 u7 vs.length (oW vs)):=(Kept.bb (F:=fun _=>False) hb2).row dF.out (fun _ _ h=>h);clear hb2 hdone
   cases hd:dn T c with
   | true=>
    have HD:Hid (dn T c=true):=hd;clear hd;go_wp2_with fail
    go_ret2
    obtain ⟨e1,e2⟩:=zN rA.out HD.out;exact ⟨u7,by rw [e2];rfl,by rw [e1];exact SE.out,bm.out⟩
   | false=>
    have HD:Hid (dn T c=false):=hd;clear hd;go_wp2_with fail
    go_ret2
    obtain ⟨e1,e2⟩:=Hj rA.out HD.out;exact ⟨.slice none 0 0,by rw [e2];rfl,by rw [e1];exact World.ownsRow_nil _ _ _ _,bm.out⟩
set_option maxRecDepth 100000 in
theorem B6 (a:Option Addr) (cp:Nat) (T:List Bool) (s:ByteArray) (hT:tb (bA s)=T) (w:World) (hs:s.size<1125899906842624):
  Calls prog 263 #[.string s,.slice a 0 cp] w fun e w'=>∃v,e=.returned (.tuple #[v,.int .i64 (ML T [])])∧w'.ownsRow (w.heap.size+1) 108 1 v (Hk T []).length (oW (Hk T []))∧Below w.heap.size w w':=by
 have hdone:=xa w.heap.size 0 s _ (Rr.new w s) hs;rw [hT] at hdone;go_enter func263,ntmps263;go_wp2_with fail
 refine (gj s w).mono ?_;rintro e w1 ⟨rfl,rfl⟩;go_wp2_with fail
 refine wp_loop_rounds 1 ?_;rw [rounds_succ];go_wp2_with fail
 refine hdone.mono ?_;rintro e w2 ⟨rfl,hb2⟩;have bm:Hid (Below w.heap.size w w2):=Below.then (aX _ _) hb2;clear hb2 hdone
 cases hd:dn T 0 with
 | true=>
  have HD:Hid (dn T 0=true):=hd;clear hd;go_wp2_with fail
  go_ret2
  obtain ⟨e1,e2⟩:=zN (ws:=[]) (c:=0) (vs:=[]) rfl HD.out;exact ⟨.slice none 0 0,by rw [e2];rfl,by rw [e1];exact World.ownsRow_nil _ _ _ _,bm.out⟩
 | false=>
  have HD:Hid (dn T 0=false):=hd;clear hd;go_wp2_with fail
  go_ret2
  obtain ⟨e1,e2⟩:=Hj (ws:=[]) (c:=0) (vs:=[]) rfl HD.out;exact ⟨.slice none 0 0,by rw [e2];rfl,by rw [e1];exact World.ownsRow_nil _ _ _ _,bm.out⟩
theorem ER (a:Option Addr) (cp n:Nat) (ws:List Int) (T:List Bool) (s:ByteArray) (hn:ws.length=n) (hT:tb (bA s)=T) (w:World) (hl:n≤16777216) (hs:s.size<1125899906842624) (h:bM w a ws):
  Calls prog 263 #[.string s,.slice a n cp] w fun e w'=>∃v,e=.returned (.tuple #[v,.int .i64 (ML T ws)])∧w'.ownsRow (w.heap.size+1) 108 1 v (Hk T ws).length (oW (Hk T ws))∧Below w.heap.size w w':=by
 subst hn;by_cases h0:ws=[]
 ·subst h0;exact B6 a cp T s hT w hs
 ·obtain ⟨b,o,rfl,k1⟩:=h.spot h0;exact B5 b o cp ws.length ws T s rfl hT w hl hs k1
set_option maxRecDepth 4000
theorem Hn:∀(fs:List (Nat×Int)) (P Z:List Bool) (v0:List Nat),(∀f∈fs,okF f=true)→
  (fs.map (·.2)).foldl (oY (P++(aA fs++Z))) (some (P.length,v0))=some (P.length+(aA fs).length,v0++fs.map (·.1))
 | [],P,Z,v0,_=>by simp [aA]
 | (v,d)::fs,P,Z,v0,h=>by
  obtain ⟨d1,d2,d3⟩:=jk (h (v,d) (by simp));obtain ⟨q,rfl⟩:∃q:Nat,d=(q:Int):=⟨d.toNat,by omega⟩;have e:aA ((v,(q:Int))::fs)=bo v q++aA fs:=rfl;have d1':(1:Int)≤(q:Int):=d1;have d2':(q:Int)≤64:=d2;have d3':v<2^q:=d3;simp only [List.map_cons,List.foldl_cons];rw [e]
  have hstep:oY (P++(bo v q++aA fs++Z)) (some (P.length,v0)) (q:Int)=some (P.length+q,v0++[v]):=by
   unfold oY;simp only [];rw [if_pos ⟨d1',d2',by simp;omega⟩]
   have e2:((P++(bo v q++aA fs++Z)).drop P.length).take (q:Int).toNat=bo v q:=by
    rw [List.drop_left' rfl,List.append_assoc];exact List.take_left' (by simp)
   rw [e2,kq,Nat.mod_eq_of_lt d3'];simp
  rw [hstep];have ih:=Hn fs (P++bo v q) Z (v0++[v]) (fun f hf=>h f (by simp [hf]));have e3:P++(bo v q++aA fs++Z)=P++bo v q++(aA fs++Z):=by simp
  rw [e3];rw [List.length_append,a_] at ih;rw [ih];simp;omega
theorem XE (fs:List (Nat×Int)) (Z:List Bool) (h:∀f∈fs,okF f=true):tk (aA fs++Z) (fs.map (·.2))=some ((aA fs).length,fs.map (·.1)):=by
 have:=Hn fs [] Z [] h
 simpa [tk] using this
theorem Zt (l:List Bool) (k:Nat):dn (l++List.replicate k false) l.length=decide (k<8):=by
 unfold dn;rw [List.drop_left' rfl,(iB (List.replicate k false)).2 (by simp)];simp
def yl (l:List Bool):List Value:=l.map fun b:Bool=>Value.int .u8 (b.toNat:Int)
@[simp] theorem ZP (l:List Bool):(yl l).length=l.length:=by simp [yl]
theorem G3 (a b:List Bool):yl (a++b)=yl a++yl b:=by simp [yl]
theorem LK (x:Nat):((decide (x%2=1)).toNat:Int)=(x:Int)%2:=by
 have:x%2=0∨x%2=1:=by omega
 rcases this with h | h <;> simp [h] <;> omega
theorem Fi (v q:Nat) (w:World) (hv:v<18446744073709551616) (h1:1≤q) (h2:q≤64):Calls prog 56 #[.agg #[.int .u64 (v:Int),.int .i64 (q:Int)]] w fun e w'=>e=.returned (.bool (decide (v<2^q)))∧Below w.heap.size w w':=by
 have d1:decide ((q:Int)<1)=false:=by simp;omega
 have d2:decide ((64:Int)<(q:Int))=false:=by simp;omega
 go_enter func56,ntmps56;go_wp2_with fail
 go_loopw [3,4] (fun x i wr=>∃k:Nat,k≤q∧i=.int .i64 (k:Int)∧x=.int .u64 ((v/2^k:Nat):Int)∧wr=w.alloc (.cells #[.int .u64 (v:Int),.int .i64 (q:Int)] 110)) (fun _ i _=>q - (intOf i).toNat)
 case atStart=>exact ⟨0,by omega,rfl,by simp,rfl⟩
 case round=>
  obtain ⟨k,hk,rfl,rfl,rfl⟩:=hrel;by_cases cE:k<q
  ·obtain ⟨y,hy⟩:∃y,v/2^k=y:=⟨_,rfl⟩;have HY:Hid (v/2^k=y):=hy;rw [hy];clear hy;have i2:(k:Int)<(q:Int):=by omega
   have hwq:IntKind.u64.wrap ((y:Int)/2)=(y:Int)/2:=by
    have:y≤v:=by rw [←HY.out];exact Nat.div_le_self _ _
    rw [IntKind.wrap_u64];omega
   go_wp2_with fail
   go_roundw
   case rel=>exact ⟨k+1,by omega,by go_num,by rw [Nat.pow_succ,←Nat.div_div_eq_div_mul,HY.out];simp,by first | rfl | trivial⟩
   case measure=>simp [intOf];omega
  ·have iX:decide ((k:Int)<(q:Int))=false:=by simp;omega
   obtain rfl:k=q:=by omega
   go_wp2_with fail
   go_ret;exact ⟨ae (qT v k),aX _ _⟩
theorem KH (v:Nat) (d:Int) (w:World) (h:¬Gw d):Calls prog 56 #[.agg #[.int .u64 (v:Int),.int .i64 d]] w fun e w'=>e=.returned (.bool false)∧Below w.heap.size w w':=by
 by_cases h1:1≤d
 ·have h2:64<d:=by unfold Gw at h;omega
  clear h;go_enter func56,ntmps56;go_wp2_with fail
  go_ret;exact ⟨rfl,aX _ _⟩
 ·clear h;go_enter func56,ntmps56;go_wp2_with fail
  go_ret;exact ⟨rfl,aX _ _⟩
theorem jw (v:Nat) (d:Int) (w:World) (hv:v<18446744073709551616):Calls prog 56 #[.agg #[.int .u64 (v:Int),.int .i64 d]] w fun e w'=>e=.returned (.bool (okF (v,d)))∧Below w.heap.size w w':=by
 by_cases h:Gw d
 ·obtain ⟨q,rfl⟩:∃q:Nat,d=(q:Int):=⟨d.toNat,by have:=h.1;omega⟩;have e:okF (v,(q:Int))=decide (v<2^q):=by simp [okF,Gn h]
  rw [e];have h1:=h.1;have h2:=h.2;exact Fi v q w hv (by omega) (by omega)
 ·have e:okF (v,d)=false:=by simp [okF,Qf h]
  rw [e];exact KH v d w h
set_option maxRecDepth 100000 in
theorem NM (B v q n:Nat) (l:List Bool) (x:Value) (w:World) (h1:1≤q) (h2:q≤64) (hn:l.length=n) (hB:B≤w.heap.size) (hr:w.ownsRow B 5 1 x n (yl l)) (hl:n≤1099511627776) (hv:v<18446744073709551616):
  Calls prog 57 #[x,.agg #[.int .u64 (v:Int),.int .i64 (q:Int)]] w fun e w'=>∃x',e=.returned x'∧w'.ownsRow B 5 1 x' (n+q) (yl (l++bo v q))∧Kept (fun k=>x.ownBlock=some k) w w'∧(x'.ownBlock=x.ownBlock∨∀k,x'.ownBlock=some k→w.heap.size≤k):=by
 obtain ⟨i0,hi,hz0,hz1,hz2⟩:=info_parts Pj;have HN:Hid (l.length=n):=hn;have HR:Hid (w.ownsRow B 5 1 x n (yl l)):=hr;clear hn hr;go_enter func57,ntmps57;go_wp2_with fail
 go_loopw [0,5] (fun x1 i wr=>∃j:Nat,j≤q∧i=.int .i64 ((j:Int) - 1)∧wr.ownsRow B 5 1 x1 (n+(q - j)) (yl (l++bo (v/2^j) (q - j)))∧Kept (fun k=>x.ownBlock=some k) w wr∧(x1.ownBlock=x.ownBlock∨∀k,x1.ownBlock=some k→w.heap.size+1≤k)∧wr.cell? ⟨w.heap.size,0,none⟩=some (.int .u64 (v:Int))∧wr.cell? ⟨w.heap.size,1,none⟩=some (.int .i64 (q:Int))∧w.heap.size+1≤wr.heap.size) (fun _ i _=>(intOf i+1).toNat)
 case atStart=>exact ⟨q,Nat.le_refl _,by first | rfl | go_num,by simpa [bo] using HR.out.alloc _,(Kept.refl _ _).alloc _,.inl rfl,by simp [go_sem],by simp [go_sem],by simp⟩
 case round=>
  obtain ⟨j,hj,rfl,hrow,EB,ho,c0,c1,hsz⟩:=hrel;have dF:Hid (wr.ownsRow B 5 1 u0 (n+(q - j)) (yl (l++bo (v/2^j) (q - j)))):=hrow;have BU:Hid (Kept (fun k=>x.ownBlock=some k) w wr):=EB;have HO:Hid (u0.ownBlock=x.ownBlock∨∀k,u0.ownBlock=some k→w.heap.size+1≤k):=ho;clear hrow EB ho;by_cases hz:j=0
  ·subst hz;rw [show ((0:Nat):Int) - 1=-1 from rfl];go_wp2_with fail
   go_ret;refine ⟨u0,rfl,by simpa using dF.out,BU.out,?_⟩;rcases HO.out with e | e
   ·exact .inl e
   ·exact .inr fun k hk=>Nat.le_of_succ_le (e k hk)
  ·obtain ⟨i,rfl⟩:∃i,j=i+1:=⟨j - 1,by omega⟩;rw [show ((i+1:Nat):Int) - 1=(i:Int) by omega];have hi0:(0:Int)≤(i:Int):=by omega
   go_wp2_with fail
   go_loopw [6,7] (fun y kk wr'=>∃t:Nat,t≤i∧kk=.int .i64 (t:Int)∧y=.int .u64 ((v/2^t:Nat):Int)∧wr'=wr) (fun _ kk _=>i - (intOf kk).toNat)
   case atStart=>exact ⟨0,by omega,rfl,by simp,rfl⟩
   case round=>
    obtain ⟨t,ht,rfl,rfl,rfl⟩:=hrel;by_cases hti:t<i
    ·obtain ⟨y,hy⟩:∃y,v/2^t=y:=⟨_,rfl⟩;have HY:Hid (v/2^t=y):=hy;rw [hy];clear hy;have i2:(t:Int)<(i:Int):=by omega
     have hwq:IntKind.u64.wrap ((y:Int)/2)=(y:Int)/2:=by
      have:y≤v:=by rw [←HY.out];exact Nat.div_le_self _ _
      rw [IntKind.wrap_u64];omega
     go_wp2_with fail
     go_roundw
     case rel=>exact ⟨t+1,by omega,by go_num,by rw [Nat.pow_succ,←Nat.div_div_eq_div_mul,HY.out];simp,by first | rfl | trivial⟩
     case measure=>simp [intOf];omega
    ·have adP:decide ((t:Int)<(i:Int))=false:=by simp;omega
     obtain rfl:t=i:=by omega
     obtain ⟨y,hy⟩:∃y,v/2^t=y:=⟨_,rfl⟩;have HY:Hid (v/2^t=y):=hy;rw [hy];clear hy;obtain ⟨e,he⟩:∃e:Nat,y%2=e:=⟨_,rfl⟩;have HE:Hid (y%2=e):=he;have he2:(y:Int)%2=(e:Int):=by omega
     have he3:(e:Int)%256=(e:Int):=by omega
     clear he;have hHB:B≤wr.heap.size:=by have:=BU.out.size;omega
     have hln:n+(q - (t+1))≤1099511627840:=by omega
     go_wp2_with (at_builtin;refine wpList_append_lies _ rfl _ _ _ rfl B 5 i0 _ 1 1 underlying151 hi hz0 hz1 hz2 rfl (by omega) _ (n+(q - (t+1))) _ rfl (dF.out.alloc _) ⟨wr.heap.size,0,none⟩ 1 1 [.int .u8 (e:Int)] rfl rfl (fN _ _ _ _ rfl) (by simp [Value.oneCell']) (by omega) (by unfold maxLen;omega) (by omega) (by simp;omega) (wr.heap.size+1) (by simp) ?_;intro g3 jb w3 tF mZ Ln PC;have oT:Hid ((wr.alloc (.cells #[.int .u8 (e:Int)] 5)).grownBy w3 u0.ownBlock):=mZ;have RP:Hid (w3.ownsRow B 5 1 (.slice (some ⟨g3,0,none⟩) (n+(q - (t+1))+1) jb) (n+(q - (t+1))+1) (yl (l++bo (v/2^(t+1)) (q - (t+1)))++[.int .u8 (e:Int)])):=tF;have HA3:Hid (u0.ownBlock=some g3∨g3=wr.heap.size+1):=Ln;clear tF mZ Ln PC)
     go_roundw
     case rel=>
      have hnb:∀k,u0.ownBlock=some k→k≠w.heap.size:=fun k hk e=>by
       rcases HO.out with h | h
       ·have:=(HR.out.lt k (h ▸ hk)).2;omega
       ·have:=h k hk;omega
      have k3:Kept (fun k=>u0.ownBlock=some k) wr w3:=((Kept.refl _ wr).alloc _).grown oT.out (fun j hj _=>hj);refine ⟨t,by omega,by go_num,?_,?_,?_,k3.cell c0 (fun e=>hnb _ e rfl),k3.cell c1 (fun e=>hnb _ e rfl),Nat.le_trans hsz k3.size⟩
      ·have e1:yl (l++bo (v/2^t) (q - t))=yl (l++bo (v/2^(t+1)) (q - (t+1)))++[.int .u8 (e:Int)]:=by
        rw [show q - t=(q - (t+1))+1 by omega,ZF,HY.out,Nat.pow_succ,←Nat.div_div_eq_div_mul,HY.out,←List.append_assoc,G3]
        congr 1
        simp only [yl,List.map_cons,List.map_nil];rw [LK,he2]
       rw [e1,show n+(q - t)=n+(q - (t+1))+1 by omega];exact RP.out
      ·refine BU.out.trans k3 (fun k hk hu=>?_);rcases HO.out with h | h
       ·exact h ▸ hu
       ·have:=h k hu;omega
      ·rcases HA3.out with h | h
       ·rcases HO.out with h' | h'
        ·exact .inl (by rw [←h',h];rfl)
        ·exact .inr fun k hk=>by cases hk;exact h' g3 h
       ·exact .inr fun k hk=>by cases hk;show w.heap.size+1≤g3;omega
     case measure=>simp [intOf]
theorem DR {w:World} {B:Nat} {v:Value} {l:List Nat} {n:Nat} (hn:l.length=n) (h:w.ownsRow B 5 1 v n (rG l)) (hlt:∀x∈l,x<256):(convert 151 9 v).run prog w=.ok (.string (tx l)) w:=by
 subst hn;rcases h.2 with ⟨h0,hn⟩ | ⟨r,cap,cur,hv,_⟩
 ·subst h0;have hp:l=[]:=List.length_eq_zero_iff.1 hn;subst hp;rw [run_convert_bytes_string w 151 9 5 none 0 0 underlying151 underlying5 underlying9];rfl
 ·subst hv
  have hc:=run_convert_bytes_back (P:=prog) w 151 9 5 ⟨r,0,none⟩ cap (l.map UInt8.ofNat) underlying151 underlying5 underlying9 (fun j hj=>by
   simp at hj;have e:((⟨r,0,none⟩:Addr).add j)=⟨r,j,none⟩:=by unfold Addr.add;split <;> simp_all
   rw [e,h.cellAt j (by omega)];have hlt:=hlt l[j] (List.getElem_mem hj)
   simp [rG,hj,UInt8.toNat_ofNat'];omega)
  rw [List.length_map] at hc;exact hc
/- The first k bits of a row, noughts behind it, as a number. -/
def pv (t:List Bool) (k:Nat):Nat:=bv (t.take k) * 2^(k - min k t.length)
theorem TA (t:List Bool):pv t 0=0:=by simp [pv,bv]
theorem NP (t:List Bool):pv t 8=uo t:=rfl
theorem aaJ (t:List Bool) (k:Nat) (h:k<t.length):pv t (k+1)=2 * pv t k+(t[k]).toNat:=by
 unfold pv;rw [List.take_succ_eq_append_getElem h,eN,Nat.min_eq_left (by omega),Nat.min_eq_left (by omega)];simp [bv];omega
theorem XY (t:List Bool) (k:Nat) (h:t.length≤k):pv t (k+1)=2 * pv t k:=by
 unfold pv;rw [List.take_of_length_le (by omega),List.take_of_length_le h,Nat.min_eq_right (by omega),Nat.min_eq_right h,show k+1 - t.length=(k - t.length)+1 by omega,Nat.pow_succ];rw [←Nat.mul_assoc,Nat.mul_comm]
theorem aaI (t:List Bool) (k:Nat):pv t k<2^k:=by
 unfold pv;have h:=ma (t.take k);rw [List.length_take] at h;have e:2^k=2^(min k t.length) * 2^(k - min k t.length):=by rw [←Nat.pow_add,show min k t.length+(k - min k t.length)=k by omega]
 rw [e];exact Nat.mul_lt_mul_of_pos_right h (Nat.two_pow_pos _)
theorem XZ (t:List Bool) (k:Nat) (h:k≤7):pv t k<128:=Nat.lt_of_lt_of_le (aaI t k) (by have:=Nat.pow_le_pow_right (n:=2) (by decide) h;simpa using this)
set_option maxRecDepth 100000 in
theorem CF (r cap n:Nat) (l:List Bool) (w:World) (hn:l.length=n) (hl:n≤1099511627776) (hc:∀j,j<n→w.cell? ⟨r,j,none⟩=some (.int .u8 ((l.getD j false).toNat:Int))):
  Calls prog 58 #[.slice (some ⟨r,0,none⟩) n cap] w fun e w'=>e=.returned (.string (tx (pk l)))∧Below w.heap.size w w':=by
 obtain ⟨i0,hi,hz0,hz1,hz2⟩:=info_parts Pj;have HN:Hid (l.length=n):=hn;clear hn;go_enter func58,ntmps58;go_wp2_with fail
 go_loopw [3,4] (fun v i wr=>∃t:Nat,t≤(n+7)/8∧i=.int .i64 ((8 * t:Nat):Int)∧wr.ownsRow w.heap.size 5 1 v t (rG (xX l t))∧Below w.heap.size w wr) (fun _ i _=>n+8 - (intOf i).toNat)
 case atStart=>exact ⟨0,by omega,rfl,World.ownsRow_nil _ _ _ _,Below.refl _ _⟩
 case round=>
  obtain ⟨t,ht,rfl,hrow,hb⟩:=hrel;have dF:Hid (wr.ownsRow w.heap.size 5 1 u3 t (rG (xX l t))):=hrow;have HB:Hid (Below w.heap.size w wr):=hb;clear hrow;obtain ⟨i,hi8⟩:∃i,8 * t=i:=⟨_,rfl⟩;have HI:Hid (8 * t=i):=hi8;rw [hi8];by_cases ED:i<n
  ·have i2:(i:Int)<(n:Int):=by omega
   have hcw:∀j,j<n→wr.cell? ⟨r,j,none⟩=some (.int .u8 ((l.getD j false).toNat:Int)):=fun j hj=>cell_later hb (hc j hj)
   have HCW:Hid _:=hcw;have ht2:t≤137438953473:=by omega
   clear hb hcw hc hi8;obtain ⟨T,hT⟩:∃T,l.drop i=T:=⟨_,rfl⟩;have Gj:T.length=n - i:=by rw [←hT,List.length_drop,HN.out]
   have HT:Hid (l.drop i=T∧T.length=n - i):=⟨hT,Gj⟩;clear hT Gj;go_wp2_with fail
   go_loopw [5,6] (fun y kk wr'=>∃k:Nat,k≤8∧kk=.int .i64 (k:Int)∧y=.int .u8 ((pv T k:Nat):Int)∧wr'=wr) (fun _ kk _=>8 - (intOf kk).toNat)
   case atStart=>exact ⟨0,by omega,rfl,by rw [TA];rfl,rfl⟩
   case round=>
    obtain ⟨k,hk,rfl,rfl,rfl⟩:=hrel;by_cases dA:k<8
    ·have k8:(k:Int)<8:=by omega
     have hp:=XZ T k (by omega);obtain ⟨y,hy⟩:∃y,pv T k=y:=⟨_,rfl⟩;have HY:Hid (pv T k=y):=hy;rw [hy] at hp ⊢;clear hy;have hw2:(y:Int) * 2%256=((2 * y:Nat):Int):=by omega
     have hw3:IntKind.u8.wrap ((y:Int) * 2)=((2 * y:Nat):Int):=by simp [IntKind.wrap,IntKind.bits,IntKind.signed];omega
     have hni:(n:Int) - (i:Int)=((n - i:Nat):Int):=by omega
     by_cases iw:k<n - i
     ·have l1:(k:Int)<((n - i:Nat):Int):=by omega
      obtain ⟨sx,Sd⟩:∃sx,i+k=sx:=⟨_,rfl⟩
      have hik:IntKind.i64.wrap ((i:Int)+(k:Int))=(sx:Int):=by
       have:(i:Int)+(k:Int)=(sx:Int):=by omega
       rw [this];exact oV sx (by omega)
      have adX:(0:Int)≤(sx:Int):=by omega
      have adW:(sx:Int)<(n:Int):=by omega
      have hcell:=HCW.out sx (by omega);have ye:l.getD sx false=T.getD k false:=by rw [←HT.out.1,←Sd];simp
      have HS:Hid (pv T (k+1)=2 * y+(T.getD k false).toNat):=by
       have hkT:k<T.length:=by rw [HT.out.2];exact iw
       have:=aaJ T k hkT;rw [HY.out] at this;unfold Hid;rw [this];simp [hkT]
      rw [ye] at hcell;obtain ⟨e,he⟩:∃e:Nat,(T.getD k false).toNat=e:=⟨_,rfl⟩;have he1:e≤1:=by rw [←he];cases T.getD k false <;> simp
      rw [he] at hcell HS;have hw4:IntKind.u8.wrap (((2 * y:Nat):Int)+(e:Int))=((2 * y+e:Nat):Int):=by simp [IntKind.wrap,IntKind.bits,IntKind.signed];omega
      clear ye he Sd;go_wp2_with fail
      go_roundw
      case rel=>exact ⟨k+1,by omega,by go_num,by rw [HS.out];simp,by first | rfl | trivial⟩
      case measure=>simp [intOf];omega
     ·have l1:decide ((k:Int)<((n - i:Nat):Int))=false:=by simp;omega
      have l2:decide (k<n - i)=false:=by simp;omega
      have HS:Hid (pv T (k+1)=2 * y):=by
       have:=XY T k (by rw [HT.out.2];omega);rw [HY.out] at this;exact this
      go_wp2_with fail
      go_roundw
      case rel=>exact ⟨k+1,by omega,by go_num,by rw [HS.out];simp,by first | rfl | trivial⟩
      case measure=>simp [intOf];omega
    ·obtain rfl:k=8:=by omega
     have HP:Hid (pv T 8=uo (l.drop (8 * t))):=by unfold Hid;rw [NP,HI.out,HT.out.1]
     obtain ⟨y,hy⟩:∃y,pv T 8=y:=⟨_,rfl⟩;rw [hy] at HP ⊢;clear hy;have hsz:=HB.out.size;go_wp2_with (at_builtin;refine wpList_append_lies _ rfl _ _ _ rfl w.heap.size 5 i0 _ 1 1 underlying151 hi hz0 hz1 hz2 rfl (by omega) _ t _ rfl (dF.out.alloc _) ⟨wr.heap.size,0,none⟩ 1 1 [.int .u8 (y:Int)] rfl rfl (fN _ _ _ _ rfl) (by simp [Value.oneCell']) (by omega) (by unfold maxLen;omega) (by omega) (by simp;omega) (wr.heap.size+1) (by simp) ?_;intro g3 jb w3 tF mZ Ln PC;have oT:Hid ((wr.alloc (.cells #[.int .u8 (y:Int)] 5)).grownBy w3 u3.ownBlock):=mZ;have RP:Hid (w3.ownsRow w.heap.size 5 1 (.slice (some ⟨g3,0,none⟩) (t+1) jb) (t+1) (rG (xX l t)++[.int .u8 (y:Int)])):=tF;clear tF mZ Ln PC)
     go_roundw
     case rel=>
      refine ⟨t+1,by have:=HI.out;omega,by have:=HI.out;rw [←this];go_num,?_,Below.grown (Below.more HB.out _) oT.out (by simp;omega) (fun k hk=>(dF.out.lt k hk).1)⟩;rw [vU,vd,←HP.out];exact RP.out
     case measure=>simp [intOf];omega
  ·have i2:decide ((i:Int)<(n:Int))=false:=by simp;omega
   have e:xX l t=pk l:=by unfold pk;rw [HN.out];congr 1;omega
   have hcv:=DR (by simp) dF.out (by rw [e];exact yQ l);rw [e] at hcv;clear hb hi8 e;go_wp2_with fail
   go_ret;exact ⟨rfl,HB.out⟩
set_option maxRecDepth 100000 in
theorem vK (w:World):Calls prog 58 #[.slice none 0 0] w fun e w'=>e=.returned (.string (tx (pk [])))∧Below w.heap.size w w':=by
 have hcv:=DR (w:=w) (B:=0) (v:=.slice none 0 0) (l:=[]) (n:=0) rfl (World.ownsRow_nil _ _ _ _) (by simp);go_enter func58,ntmps58;go_wp2_with fail
 refine wp_loop_rounds 1 ?_;rw [rounds_succ];go_wp2_with fail
 go_ret;exact ⟨rfl,Below.refl _ _⟩
theorem Fq (B n:Nat) (l:List Bool) (x:Value) (w:World) (hn:l.length=n) (hl:n≤1099511627776) (h:w.ownsRow B 5 1 x n (yl l)):
  Calls prog 58 #[x] w fun e w'=>e=.returned (.string (tx (pk l)))∧Below w.heap.size w w':=by
 rcases h.2 with ⟨h0,h1⟩ | ⟨r,cap,cur,hv,_⟩
 ·subst h0;have:l=[]:=List.length_eq_zero_iff.1 (hn.trans h1);subst this;exact vK w
 ·subst hv;refine CF r cap n l w hn hl (fun j hj=>?_);rw [h.cellAt j (by omega)];simp [yl,hn,hj]
theorem aQ {w w':World} {B e k n:Nat} {v:Value} {xs:List Value} (h:w.ownsRow B e k v n xs) (hb:Below w.heap.size w w'):w'.ownsRow B e k v n xs:=(Kept.bb (F:=fun _=>False) hb).row h (fun _ _ h=>h)
set_option maxRecDepth 100000 in
theorem Fk (b o c n:Nat) (fs:List (Nat×Int)) (hn:fs.length=n) (w:World) (hl:n≤16777216)
  (h1:∀i,i<n→w.cell? ⟨b,o+i * 2,none⟩=some (.int .u64 ((fs.getD i (0,0)).1:Int))∧w.cell? ⟨b,o+i * 2+1,none⟩=some (.int .i64 (fs.getD i (0,0)).2)∧(fs.getD i (0,0)).1<18446744073709551616):
  Calls prog 29 #[.slice (some ⟨b,o,none⟩) n c] w fun e w'=>e=.returned (.tuple #[.string (ua fs),.int .i64 (ub fs)])∧Below w.heap.size w w':=by
 have HN:Hid (fs.length=n):=hn;clear hn;go_enter func29,ntmps29;go_wp2_with fail
 go_loopw [4,9] (fun v i wr=>∃k:Nat,k≤n∧i=.int .i64 (k:Int)∧(∀f∈fs.take k,okF f=true)∧Below w.heap.size w wr∧wr.ownsRow w.heap.size 5 1 v (aA (fs.take k)).length (yl (aA (fs.take k)))) (fun _ i _=>n - (intOf i).toNat)
 case atStart=>exact ⟨0,by omega,rfl,by simp,Below.refl _ _,World.ownsRow_nil _ _ _ _⟩
 case round=>
  obtain ⟨k,hk,rfl,lS,hb,hrow⟩:=hrel;have HB:Hid (Below w.heap.size w wr):=hb;have dF:Hid (wr.ownsRow w.heap.size 5 1 u4 (aA (fs.take k)).length (yl (aA (fs.take k)))):=hrow;have iN:Hid (∀f∈fs.take k,okF f=true):=lS
  have hlen:Hid ((aA (fs.take k)).length≤64 * k):=by
   have:=D3 _ iN.out;rw [List.length_take] at this;unfold Hid;omega
  clear hrow lS;by_cases cE:k<n
  ·obtain ⟨c0,c1,AJ⟩:=h1 k cE;have c0:=cell_later hb c0;have c1:=cell_later hb c1;have i1:(0:Int)≤(k:Int):=by omega
   have i2:(k:Int)<(n:Int):=by omega
   have HS:Hid (fs.take (k+1)=fs.take k++[fs.getD k (0,0)]):=eC fs k (0,0) (by rw [HN.out];exact cE);have HF:Hid (okF (fs.getD k (0,0))=false→fs.all okF=false):=Eb okF fs k (0,0) (by rw [HN.out];exact cE);obtain ⟨v,d,evd⟩:∃v d,fs.getD k (0,0)=(v,d):=⟨_,_,rfl⟩;rw [evd] at c0 c1 AJ HS HF;clear h1 evd hb;go_wp2_with fail
   refine (jw v d _ AJ).mono ?_;rintro e w2 ⟨rfl,hb2⟩;have c0:w2.cell? ⟨wr.heap.size,0,none⟩=some (.int .u64 (v:Int)):=cell_later hb2 (by simp [go_sem]);have c1:w2.cell? ⟨wr.heap.size,1,none⟩=some (.int .i64 d):=cell_later hb2 (by simp [go_sem]);have bm:Hid (Below w.heap.size w w2):=Below.then (Below.more HB.out _) hb2;have El:Hid (w2.ownsRow w.heap.size 5 1 u4 (aA (fs.take k)).length (yl (aA (fs.take k)))):=aQ (dF.out.alloc _) hb2;clear hb2
   cases hf:okF (v,d) with
   | true=>
    obtain ⟨d1,d2,d3⟩:=jk hf;obtain ⟨q,rfl⟩:∃q:Nat,d=(q:Int):=⟨d.toNat,by omega⟩;have HP:=NM w.heap.size v q _ (aA (fs.take k)) u4 w2 (by omega) (by omega) rfl bm.out.size El.out (by have:=hlen.out;omega) AJ;have Ep:Hid (okF (v,(q:Int))=true):=hf;clear hf d3;go_wp2_with fail
    refine HP.mono ?_;rintro e w3 ⟨x',rfl,hr3,hk3,_⟩;have HR3:Hid (w3.ownsRow w.heap.size 5 1 x' ((aA (fs.take k)).length+q) (yl (aA (fs.take k)++bo v q))):=hr3;have dR:Hid (Below w.heap.size w w3):=Kept.toBelow bm.out hk3 (fun j hj=>(El.out.lt j hj).1);clear hr3 hk3 HP;go_wp2_with fail
    go_roundw
    case rel=>
     refine ⟨k+1,by omega,by go_num,?_,dR.out,?_⟩
     ·rw [HS.out];intro f hf;rcases List.mem_append.1 hf with hf | hf
      ·exact iN.out f hf
      ·simp at hf;subst hf;exact Ep.out
     ·rw [HS.out,aM];have e:aA [(v,(q:Int))]=bo v q:=by simp [aA]
      rw [e,List.length_append,a_];exact HR3.out
    case measure=>simp [intOf];omega
   | false=>
    have hall:Hid (fs.all okF=false):=HF.out hf;clear hf;go_wp2_with fail
    go_ret2
    exact ⟨by simp [ua,ub,hall.out];rfl,bm.out⟩
  ·have iX:decide ((k:Int)<(n:Int))=false:=by simp;omega
   have e:fs.take k=fs:=List.take_of_length_le (by rw [HN.out];omega);have HE:Hid (fs.take k=fs):=e;have hp:=Fq _ _ _ _ _ rfl (by have:=hlen.out;omega) dF.out;clear e hb h1;go_wp2_with fail
   refine hp.mono ?_;rintro e w2 ⟨rfl,hb2⟩;have bm:Hid (Below w.heap.size w w2):=Below.then HB.out hb2;clear hb2 hp;go_wp2_with fail
   go_ret2
   have hall:fs.all okF=true:=by
    rw [List.all_eq_true];intro f hf;exact iN.out f (by rw [HE.out];exact hf)
   exact ⟨by simp [ua,ub,hall,HE.out],bm.out⟩
set_option maxRecDepth 100000 in
theorem Fl (a:Option Addr) (c:Nat) (w:World):
  Calls prog 29 #[.slice a 0 c] w fun e w'=>e=.returned (.tuple #[.string (ua []),.int .i64 (ub [])])∧Below w.heap.size w w':=by
 go_enter func29,ntmps29;go_wp2_with fail
 refine wp_loop_rounds 1 ?_;rw [rounds_succ];go_wp2_with fail
 refine (vK w).mono ?_;rintro e w2 ⟨rfl,hb2⟩;go_wp2_with fail
 go_ret2
 exact ⟨rfl,hb2⟩
theorem yL (a:Option Addr) (c n:Nat) (fs:List (Nat×Int)) (hn:fs.length=n) (w:World) (hl:n≤16777216) (h:JR w a fs):
  Calls prog 29 #[.slice a n c] w fun e w'=>e=.returned (.tuple #[.string (ua fs),.int .i64 (ub fs)])∧Below w.heap.size w w':=by
 subst hn;by_cases h0:fs=[]
 ·subst h0;exact Fl a c w
 ·obtain ⟨b,o,rfl,k1⟩:=h.spot h0;exact Fk b o c fs.length fs rfl w hl k1
end Go.Proofs.YtanaapfobpgibaaGreatDoor.Bt
