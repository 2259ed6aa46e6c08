/- Messages on plain data: how they are written as bits and read again; what is read by either reader. -/
import Derived.Test.YtoimkngkcliinaaGreatDoorJBitDone
import Derived.Test.YtoimkngkcliinaaGreatDoorJKeyMath
import Derived.Test.YtoimkngkcliinaaGreatDoorJShpMath
namespace Go.Proofs.YtoimkngkcliinaaGreatDoor.Wi
open Go.RowKit
open Bt (bv bo bo_length bv_lt bv_bo bo_bv bo_split bo_mod bv_append tb tb_length tb_append pk pk_tb tb_pk pk_pad pk_lt pk_length tx bys bys_tx tx_bys bys_length tx_size dn bitsF okF bitsF_append pkS pkE)
open Rt (gd)
open Sh (belB)
set_option linter.unusedVariables false
set_option maxRecDepth 4000
set_option linter.unusedSimpArgs false
/- Read and written: what is written is read again, and what is read was written so. -/
structure Cod {α:Type} (ok:α→Prop) (enc:α→List Bool) (dec:List Bool→Nat→Option (α×Nat)):Prop where
 back:∀{T A Z:List Bool} {x:α},ok x→T=A++(enc x++Z)→dec T A.length=some (x,A.length+(enc x).length)
 forth:∀{T:List Bool} {c:Nat} {x:α} {c':Nat},dec T c=some (x,c')→c≤T.length→ok x∧c'=c+(enc x).length∧c'≤T.length∧(T.drop c).take (enc x).length=enc x
/- One number. -/
def pn (q:Nat) (T:List Bool) (c:Nat):Option (Nat×Nat):=if c+q≤T.length then some (bv ((T.drop c).take q),c+q) else none
theorem pn_yes {q:Nat} {T:List Bool} {c:Nat} (h:c+q≤T.length):pn q T c=some (bv ((T.drop c).take q),c+q):=by unfold pn;rw [if_pos h]
theorem pn_lt {q:Nat} {T:List Bool} {c v c':Nat} (h:pn q T c=some (v,c')):v<2^q:=by
 unfold pn at h;split at h
 ·cases h
  refine Nat.lt_of_lt_of_le (bv_lt _) (Nat.pow_le_pow_right (by decide) ?_);simp;omega
 ·cases h
theorem cod_nat (q:Nat):Cod (fun v:Nat=>v<2^q) (fun v=>bo v q) (pn q) where
 back:=by
  intro T A Z x hx hT;rw [pn_yes (by rw [hT];simp)];rw [hT,List.drop_left' rfl,List.take_left' (bo_length _ _),bv_bo,Nat.mod_eq_of_lt hx,bo_length]
 forth:=by
  intro T c x c' h hc;have hlt:=pn_lt h;unfold pn at h;split at h
  ·rename_i hq
   simp only [Option.some.injEq,Prod.mk.injEq] at h;obtain ⟨rfl,rfl⟩:=h;have hl:((T.drop c).take q).length=q:=by simp;omega
   have e:bo (bv ((T.drop c).take q)) q=(T.drop c).take q:=by
    have:=bo_bv ((T.drop c).take q);rw [hl] at this;exact this
   exact ⟨hlt,by rw [bo_length],hq,by rw [bo_length,e]⟩
  ·cases h
/- One behind the other. -/
def pq {α β:Type} (d:List Bool→Nat→Option (α×Nat)) (e:List Bool→Nat→Option (β×Nat)) (T:List Bool) (c:Nat):Option ((α×β)×Nat):=
 match d T c with
 | none=>none
 | some (x,c1)=>match e T c1 with
  | none=>none
  | some (y,c2)=>some ((x,y),c2)
section
variable {α β:Type} {d:List Bool→Nat→Option (α×Nat)} {e:List Bool→Nat→Option (β×Nat)} {T:List Bool} {c c1 c2:Nat} {x:α} {y:β}
theorem pq_yes (h:d T c=some (x,c1)) (h2:e T c1=some (y,c2)):pq d e T c=some ((x,y),c2):=by unfold pq;rw [h];(try dsimp only);rw [h2]
theorem pq_inv {p:α×β} (h:pq d e T c=some (p,c2)):∃c1,d T c=some (p.1,c1)∧e T c1=some (p.2,c2):=by
 unfold pq at h;split at h
 ·cases h
 ·rename_i x c1 h1
  try dsimp only at h
  split at h
  ·cases h
  ·rename_i y c2' h2
   cases h
   exact ⟨c1,h1,h2⟩
theorem take_two {a b:Nat} {l:List Bool}:l.take (a+b)=l.take a++(l.drop a).take b:=List.take_add
theorem Cod.seq {ok1:α→Prop} {ok2:β→Prop} {en1:α→List Bool} {en2:β→List Bool} (h1:Cod ok1 en1 d) (h2:Cod ok2 en2 e):Cod (fun p:α×β=>ok1 p.1∧ok2 p.2) (fun p=>en1 p.1++en2 p.2) (pq d e) where
 back:=by
  intro T A Z p hp hT;have e1:=h1.back (T:=T) (A:=A) (Z:=en2 p.2++Z) hp.1 (by rw [hT];simp);have e2:=h2.back (T:=T) (A:=A++en1 p.1) (Z:=Z) hp.2 (by rw [hT];simp);rw [List.length_append] at e2;rw [pq_yes e1 e2,List.length_append,Nat.add_assoc]
 forth:=by
  intro T c p c' h hc;obtain ⟨c1,k1,k2⟩:=pq_inv h;obtain ⟨o1,a1,b1,t1⟩:=h1.forth k1 hc;obtain ⟨o2,a2,b2,t2⟩:=h2.forth k2 b1;refine ⟨⟨o1,o2⟩,by rw [a2,a1,List.length_append,Nat.add_assoc],b2,?_⟩;rw [List.length_append,take_two,t1,List.drop_drop,←a1,t2]
end
/- So many of a kind. -/
def pl {α:Type} (d:List Bool→Nat→Option (α×Nat)) (T:List Bool) (c:Nat):Nat→Option (List α×Nat)
 | 0=>some ([],c)
 | n+1=>match pl d T c n with
  | none=>none
  | some (l,c1)=>match d T c1 with
   | none=>none
   | some (x,c2)=>some (l++[x],c2)
section
variable {α:Type} {d:List Bool→Nat→Option (α×Nat)} {T:List Bool} {c c1 c2 n:Nat} {x:α} {l:List α}
theorem pl_no (h:pl d T c n=none):∀k,pl d T c (n+k)=none
 | 0=>h
 | k+1=>by
  show pl d T c (n+k+1)=none
  rw [pl,pl_no h k]
theorem pl_next (h:pl d T c n=some (l,c1)) (h2:d T c1=some (x,c2)):pl d T c (n+1)=some (l++[x],c2):=by rw [pl,h];(try dsimp only);rw [h2]
theorem pl_inv {L:List α} (h:pl d T c (n+1)=some (L,c2)):∃l x c1,L=l++[x]∧pl d T c n=some (l,c1)∧d T c1=some (x,c2):=by
 rw [pl] at h;split at h
 ·cases h
 ·rename_i l c1 h1
  try dsimp only at h
  split at h
  ·cases h
  ·rename_i x c2' h2
   cases h
   exact ⟨l,x,c1,rfl,h1,h2⟩
theorem snoc_of {n:Nat} {l:List α} (h:l.length=n+1):∃l' x,l=l'++[x]∧l'.length=n:=by
 refine ⟨l.take n,l[n]'(by omega),?_,by simp;omega⟩;have:=List.take_append_getElem (l:=l) (i:=n) (by omega);rw [this,List.take_of_length_le (by omega)]
theorem flat_snoc (f:α→List Bool) (l:List α) (x:α):(l++[x]).flatMap f=l.flatMap f++f x:=by simp
theorem Cod.list {ok:α→Prop} {en:α→List Bool} (h:Cod ok en d):∀n,Cod (fun l:List α=>l.length=n∧∀x∈l,ok x) (fun l=>l.flatMap en) (fun T c=>pl d T c n)
 | 0=>{
  back:=by
   intro T A Z l hl hT;have:l=[]:=List.length_eq_zero_iff.1 hl.1;subst this;rfl
  forth:=by
   intro T c l c' h hc;cases h
   exact ⟨⟨rfl,by simp⟩,rfl,hc,rfl⟩}
 | n+1=>{
  back:=by
   intro T A Z L hL hT;obtain ⟨l,x,rfl,hl⟩:=snoc_of hL.1;have e1:=(Cod.list h n).back (T:=T) (A:=A) (Z:=en x++Z) (x:=l) ⟨hl,fun y hy=>hL.2 y (by simp [hy])⟩ (by rw [hT];simp);have e2:=h.back (T:=T) (A:=A++l.flatMap en) (Z:=Z) (hL.2 x (by simp)) (by rw [hT];simp);rw [List.length_append] at e2;try dsimp only at e1 ⊢
   rw [pl_next e1 e2,flat_snoc,List.length_append,Nat.add_assoc]
  forth:=by
   intro T c L c' hd hc;obtain ⟨l,x,c1,rfl,k1,k2⟩:=pl_inv hd;obtain ⟨o1,a1,b1,t1⟩:=(Cod.list h n).forth (T:=T) (c:=c) k1 hc;obtain ⟨o2,a2,b2,t2⟩:=h.forth k2 b1;refine ⟨⟨by rw [List.length_append,o1.1];rfl,?_⟩,by rw [a2,a1,flat_snoc,List.length_append,Nat.add_assoc],b2,?_⟩
   ·intro y hy;rcases List.mem_append.1 hy with hy | hy
    ·exact o1.2 y hy
    ·simp at hy;subst hy;exact o2
   ·rw [flat_snoc,List.length_append,take_two,t1,List.drop_drop,←a1,t2]}
/- A list behind its length. -/
def pc (q:Nat) (d:List Bool→Nat→Option (α×Nat)) (T:List Bool) (c:Nat):Option (List α×Nat):=
 match pn q T c with
 | none=>none
 | some (n,c1)=>pl d T c1 n
theorem pc_yes {q:Nat} (h:pn q T c=some (n,c1)):pc q d T c=pl d T c1 n:=by unfold pc;rw [h]
theorem Cod.count {ok:α→Prop} {en:α→List Bool} (h:Cod ok en d) (q:Nat):Cod (fun l:List α=>l.length<2^q∧∀x∈l,ok x) (fun l=>bo l.length q++l.flatMap en) (pc q d) where
 back:=by
  intro T A Z l hl hT;have e1:=(cod_nat q).back (T:=T) (A:=A) (Z:=l.flatMap en++Z) hl.1 (by rw [hT];simp);have e2:=(h.list l.length).back (T:=T) (A:=A++bo l.length q) (Z:=Z) (x:=l) ⟨rfl,hl.2⟩ (by rw [hT];simp);rw [List.length_append] at e2;try dsimp only at e2
  rw [pc_yes e1,e2,List.length_append,Nat.add_assoc]
 forth:=by
  intro T c l c' hd hc;unfold pc at hd;split at hd
  ·cases hd
  ·rename_i n c1 k1
   obtain ⟨o1,a1,b1,t1⟩:=(cod_nat q).forth k1 hc;obtain ⟨o2,a2,b2,t2⟩:=(h.list n).forth (T:=T) (c:=c1) hd b1;obtain ⟨rfl,o2⟩:=o2;try dsimp only at a1 t1 a2 t2 ⊢
   refine ⟨⟨o1,o2⟩,by rw [a2,a1,List.length_append,Nat.add_assoc],b2,?_⟩;rw [List.length_append,take_two,t1,List.drop_drop,←a1,t2]
end
/- The same under another name. -/
def pm {α β:Type} (f:α→β) (d:List Bool→Nat→Option (α×Nat)) (T:List Bool) (c:Nat):Option (β×Nat):=
 match d T c with
 | none=>none
 | some (x,c1)=>some (f x,c1)
section
variable {α β:Type} {d:List Bool→Nat→Option (α×Nat)} {T:List Bool} {c c1:Nat} {x:α} {f:α→β}
theorem pm_yes (h:d T c=some (x,c1)):pm f d T c=some (f x,c1):=by unfold pm;rw [h]
theorem pm_inv {y:β} (h:pm f d T c=some (y,c1)):∃x,y=f x∧d T c=some (x,c1):=by
 unfold pm at h;split at h
 ·cases h
 ·rename_i x c' h1
  cases h
  exact ⟨x,rfl,h1⟩
theorem Cod.map {ok:α→Prop} {en:α→List Bool} (h:Cod ok en d) (f:α→β) (g:β→α) (ok':β→Prop) (hgf:∀x,ok x→g (f x)=x) (hok:∀y,ok' y→ok (g y)∧f (g y)=y) (hok2:∀x,ok x→ok' (f x)):Cod ok' (fun y=>en (g y)) (pm f d) where
 back:=by
  intro T A Z y hy hT;have:=h.back (hok y hy).1 hT;rw [pm_yes this,(hok y hy).2]
 forth:=by
  intro T c y c' hd hc;obtain ⟨x,rfl,h1⟩:=pm_inv hd;obtain ⟨o,a,b,t⟩:=h.forth h1 hc;try dsimp only
  rw [hgf x o];exact ⟨hok2 x o,a,b,t⟩
end
/- Numbers, seats, keys, boxes, items, texts. -/
def fitI (q:Nat) (v:Int):Prop:=0≤v∧v<2^q
def pi (q:Nat):List Bool→Nat→Option (Int×Nat):=pm (fun n:Nat=>(n:Int)) (pn q)
theorem cod_int (q:Nat):Cod (fitI q) (fun v:Int=>bo v.toNat q) (pi q):=by
 refine (cod_nat q).map (fun n:Nat=>(n:Int)) (fun v=>v.toNat) (fitI q) (fun x _=>Int.toNat_natCast x) (fun y hy=>?_) (fun x hx=>?_)
 ·obtain ⟨h0,h1⟩:=hy;have e:((y.toNat:Nat):Int)=y:=Int.toNat_of_nonneg h0;refine ⟨?_,e⟩;have:((y.toNat:Nat):Int)<((2^q:Nat):Int):=by rw [e];simpa using h1
  exact Int.ofNat_lt.1 this
 ·refine ⟨by omega,?_⟩;have:((x:Nat):Int)<((2^q:Nat):Int):=Int.ofNat_lt.2 hx
  simpa using this
def eS (s:Int×Int):List Bool:=bo s.1.toNat 8++bo s.2.toNat 6
def pS:List Bool→Nat→Option ((Int×Int)×Nat):=pq (pi 8) (pi 6)
theorem cod_S:Cod (fun s:Int×Int=>fitI 8 s.1∧fitI 6 s.2) eS pS:=(cod_int 8).seq (cod_int 6)
def eK (k:Int×Int):List Bool:=bo k.1.toNat 16++bo k.2.toNat 8
def gK (k:Int×Int):Bool:=gd k.1 k.2
def pK (T:List Bool) (c:Nat):Option ((Int×Int)×Nat):=
 match pn 24 T c with
 | none=>none
 | some (v,c1)=>if gK ((v/256:Nat),(v%256:Nat)) then some (((v/256:Nat),(v%256:Nat)),c1) else none
theorem gK_iff {k:Int×Int}:gK k=true↔(1≤k.1∧k.1≤65535)∧0≤k.2∧k.2≤255:=by
 simp [gK,gd,and_assoc]
theorem key_bits (b s:Nat) (h:s<256):bo (b * 256+s) 24=bo b 16++bo s 8:=by
 have h1:=bo_split (b * 256+s) 16 8;have e:(b * 256+s)/2^8=b:=by omega
 rw [e] at h1;have e2:(b * 256+s)%2^8=s:=by omega
 rw [h1,←bo_mod (b * 256+s) 8,e2]
theorem cod_K:Cod (fun k=>gK k=true) eK pK where
 back:=by
  intro T A Z k hk hT;have hk':=gK_iff.1 hk;have e:eK k=bo (k.1.toNat * 256+k.2.toNat) 24:=(key_bits _ _ (by omega)).symm;have h:=(cod_nat 24).back (T:=T) (A:=A) (Z:=Z) (x:=k.1.toNat * 256+k.2.toNat) (by show _<_;omega) (by rw [hT,e]);unfold pK;rw [h];try dsimp only
  have e1:(((k.1.toNat * 256+k.2.toNat)/256:Nat):Int)=k.1:=by omega
  have e2:(((k.1.toNat * 256+k.2.toNat)%256:Nat):Int)=k.2:=by omega
  rw [e1,e2,if_pos hk,e]
 forth:=by
  intro T c k c' h hc;unfold pK at h;split at h
  ·cases h
  ·rename_i v c1 h1
   split at h
   ·rename_i hg
    cases h
    obtain ⟨o,a,b,t⟩:=(cod_nat 24).forth h1 hc
    have e:eK (((v/256:Nat),(v%256:Nat)):Int×Int)=bo v 24:=by
     unfold eK;try dsimp only
     rw [Int.toNat_natCast,Int.toNat_natCast,←key_bits _ _ (by omega)]
     congr 1
     omega
    rw [e];exact ⟨hg,a,b,t⟩
   ·cases h
def eB (b:(Int×Int)×(Int×Int)):List Bool:=eK b.1++eK b.2
def gB (b:(Int×Int)×(Int×Int)):Bool:=gK b.1&&gK b.2
def pB:List Bool→Nat→Option (((Int×Int)×(Int×Int))×Nat):=pq pK pK
theorem cod_B:Cod (fun b:(Int×Int)×(Int×Int)=>gK b.1=true∧gK b.2=true) eB pB:=cod_K.seq cod_K
def eI (i:(Int×Int)×((Int×Int)×(Int×Int))):List Bool:=(bo i.1.1.toNat 5++bo i.1.2.toNat 7)++eB i.2
def pI:List Bool→Nat→Option (((Int×Int)×((Int×Int)×(Int×Int)))×Nat):=pq (pq (pi 5) (pi 7)) pB
theorem cod_I:Cod (fun i:(Int×Int)×((Int×Int)×(Int×Int))=>(fitI 5 i.1.1∧fitI 7 i.1.2)∧(gK i.2.1=true∧gK i.2.2=true)) eI pI:=((cod_int 5).seq (cod_int 7)).seq cod_B
def eX (s:ByteArray):List Bool:=bo s.size 7++tb (bys s)
def pX:List Bool→Nat→Option (ByteArray×Nat):=pm tx (pc 7 (pn 8))
theorem bys_lt (s:ByteArray):∀x∈bys s,x<256:=by
 intro x hx;simp only [bys,List.mem_map] at hx;obtain ⟨b,_,rfl⟩:=hx;exact UInt8.toNat_lt b
theorem cod_X:Cod (fun s:ByteArray=>s.size<2^7) eX pX:=by
 have h:=((cod_nat 8).count 7).map tx bys (fun s:ByteArray=>s.size<2^7) (fun l hl=>bys_tx l (fun x hx=>hl.2 x hx)) (fun s hs=>⟨⟨by rw [bys_length];exact hs,fun x hx=>bys_lt s x hx⟩,tx_bys s⟩) (fun l hl=>by rw [tx_size];exact hl.1)
 have e:(fun y=>(fun l:List Nat=>bo l.length 7++l.flatMap fun v=>bo v 8) (bys y))=eX:=by
  funext s
  show bo (bys s).length 7++tb (bys s)=_
  rw [bys_length];rfl
 rw [e] at h;exact h
end Go.Proofs.YtoimkngkcliinaaGreatDoor.Wi
