/- Opening batches that came in as one argument. -/
import Derived.Test.YtoimkngkcliinaaGreatDoorJRcN
import Derived.Test.YtoimkngkcliinaaGreatDoorOpenRs
import Derived.SizedLaws
namespace Go.Proofs.YtoimkngkcliinaaGreatDoor
open Go.ChangeShapes Go.WideShapes Go.ChangeAt Go.RowKit Go.Joins Go.Deep
open Rs (RdI ints_raw bytesI)
set_option linter.unusedVariables false
set_option maxRecDepth 4000
set_option linter.unusedSimpArgs false
theorem bytesBt:Tryz.prog.bytesOf 41=48:=by kernel_rfl
theorem weights_mem_all {H:Type} {P:Program} {e:TypeId} {d:DataW H} {n:Nat} (hn:n∈d.weights P e):∀{es:List (DataW H)},d∈es→n∈DataW.weightsAll P e es
 | x::r,h=>by
  rw [DataW.weightsAll,List.mem_append];rcases List.mem_cons.1 h with rfl | h
  ·exact .inl hn
  ·exact .inr (weights_mem_all hn h)
theorem sized_elems {H:Type} {P:Program} {ts:List TypeId} {ds:List (DataW H)} (h:(DataW.weightsEach P ts ds).all (· ≤reachBytes)=true) {j:Nat} {t e:TypeId} {es sp parts:List (DataW H)} {fs:Array Field} (ht:ts[j]? =some t) (hd:ds[j]? =some (.slice es sp)) (hu:P.underlying t=some (.slice e)) (hu2:P.underlying e=some (.struct fs)) (hm: .agg parts∈es):
  (DataW.weightsEach P (fs.toList.map (·.type)) parts).all (· ≤reachBytes)=true:=by
 rw [List.all_eq_true] at h ⊢;intro n hn;refine h n (DataW.weights_mem_each ht hd n ?_);rw [DataW.weights,hu];refine List.mem_cons_of_mem _ (List.mem_append.2 (.inl (weights_mem_all ?_ hm)));rw [DataW.weights,hu2];exact hn
theorem bts_of1 {H:Type} {enc:TypeId×Value→H} {W:World} {base:Nat} {spare:Nat→Bool} {held:Bool} {v:Value} {d:DataW H} {ps:List MemPlace} (hs:∀es sp,d=.slice es sp→(es.length+sp.length) * 48≤reachBytes∧∀parts,.agg parts∈es→(DataW.weightsEach Tryz.prog [39,39] parts).all (· ≤reachBytes)=true)
  (hv:∃a len cap,v=.slice a len cap) (h:DataW.Trod enc Tryz.prog W base spare held 103 v d ps):
  ∃(a:Option Addr) (cap:Nat) (l:List (List Int×List Int)),v=.slice a l.length cap∧Rc.RdB W a l∧l.length * 48≤140737488351232∧∀i,i<l.length→(l.getD i ([],[])).1.length * 8≤140737488351232∧(l.getD i ([],[])).2.length * 8≤140737488351232:=by
 obtain ⟨a0,len0,cap0,rfl⟩:=hv;obtain ⟨fuel,hf⟩:=h;rcases Go.Deep.open_slice_pairs Tryz.underlying103 Tryz.underlying41 (by kernel_rfl) rfl rfl (by kernel_rfl) (by kernel_rfl) hf with ⟨hcs,_⟩ | ⟨a,len,cap,m,n,V0,V1,D0,D1,P0,P1,hcs,_,hl,_,hm,hx,hc⟩
 ·simp [Value.cells] at hcs;obtain ⟨rfl,rfl,rfl⟩:=hcs;exact ⟨none,0,[],rfl,(fun i hi=>by cases hi),by simp,(fun i hi=>by cases hi)⟩
 ·simp [Value.cells] at hcs;obtain ⟨rfl,rfl,rfl⟩:=hcs;simp only [Prod.mk.injEq] at hx;have hlm:len0≤m:=by rw [hm];split <;> omega
  obtain ⟨hb1,hb2⟩:=hs _ _ hx.1
  have each:∀i,i<len0→∃p:List Int×List Int,(∃aL cL aJ cJ,W.cell? (a.add (i * 2))=some (.slice aL p.1.length cL)∧W.cell? (a.add (i * 2+1))=some (.slice aJ p.2.length cJ)∧RdI W aL p.1∧RdI W aJ p.2)∧p.1.length * 8≤140737488351232∧p.2.length * 8≤140737488351232:=fun i hi=>by
   obtain ⟨c0,c1,t0,t1⟩:=hc i (by omega);have hw:=hb2 [D0 i,D1 i] (List.mem_map.2 ⟨i,List.mem_range.2 hi,rfl⟩);obtain ⟨aL,cL,L,q0,r0,l0⟩:=ints_raw (x:=(D0 i,P0 i)) (fun es sp e=>by have:=sized_slice hw (j:=0) (t:=39) (e:=3) rfl (by rw [←e];rfl) Tryz.underlying39;rw [bytesI] at this;exact this) t0;obtain ⟨aJ,cJ,J,q1,r1,l1⟩:=ints_raw (x:=(D1 i,P1 i)) (fun es sp e=>by have:=sized_slice hw (j:=1) (t:=39) (e:=3) rfl (by rw [←e];rfl) Tryz.underlying39;rw [bytesI] at this;exact this) t1;simp at q0 q1;exact ⟨(L,J),⟨aL,cL,aJ,cJ,by rw [c0,q0],by rw [c1,q1],r0,r1⟩,l0,l1⟩
  obtain ⟨q,hq⟩:=Go.Deep.choose_lt each;refine ⟨some a,cap0,(List.range len0).map q,by simp,fun i hi=>?_,?_,fun i hi=>?_⟩
  ·have hi':i<len0:=by simpa using hi
   obtain ⟨⟨aL,cL,aJ,cJ,c0,c1,r0,r1⟩,_⟩:=hq i hi';obtain ⟨⟨_,_,_,_,c00,_⟩,_⟩:=hq 0 (by omega);obtain ⟨b,o,sp⟩:=a;have hsp:sp=none:=by simpa [Addr.add] using World.cell?_spot c00
   subst hsp;have e:((List.range len0).map q).getD i ([],[])=q i:=by simp [hi']
   rw [e];rw [Rs.add_plain] at c0 c1;exact ⟨b,o,aL,cL,aJ,cJ,rfl,c0,c1,r0,r1⟩
  ·simp only [List.length_map,List.length_range,reachBytes] at hb1 ⊢;omega
  ·have hi':i<len0:=by simpa using hi
   have e:((List.range len0).map q).getD i ([],[])=q i:=by simp [hi']
   rw [e];exact (hq i hi').2
end Go.Proofs.YtoimkngkcliinaaGreatDoor
