/- BitRefD, BitRefE, joined. -/
import Derived.Test.YtoimkngkcliinaaGreatDoorJBitUnpack
import Derived.BigQuiet
namespace Go.Proofs.YtoimkngkcliinaaGreatDoor.Bt
open Go.RowKit Go.Maps
set_option linter.unusedVariables false
structure Rm (B:Nat) (w:World) (g c:Nat) (T:List Bool) (v:Value):Prop where
 blk:w.heap[g]? =some (.cells #[v,.int .i64 (c:Int)] 232)
 row:w.ownsRow B 5 1 v T.length (b01 T)
 far:∀k,v.ownBlock=some k→k≠g
 le:c≤T.length
theorem Rm.c0 {B:Nat} {w:World} {g c:Nat} {T:List Bool} {v:Value} (h:Rm B w g c T v):w.cell? ⟨g,0,none⟩=some v:=by simp [World.cell?,h.blk]
theorem Rm.c1 {B:Nat} {w:World} {g c:Nat} {T:List Bool} {v:Value} (h:Rm B w g c T v):w.cell? ⟨g,1,none⟩=some (.int .i64 (c:Int)):=by simp [World.cell?,h.blk]
theorem Rm.fr {B:Nat} {w:World} {g c:Nat} {T:List Bool} {v:Value} (h:Rm B w g c T v) (j:Nat):w.frozen? ⟨g,j,none⟩=false:=by simp [World.frozen?,h.blk]
theorem Rm.drew {B:Nat} {w:World} {g c:Nat} {T:List Bool} {v:Value} (h:Rm B w g c T v):Rm B w.drew g c T v:=⟨h.blk,h.row,h.far,h.le⟩
theorem Rm.drewN {B:Nat} {w:World} {g c:Nat} {T:List Bool} {v:Value} (h:Rm B w g c T v) (n:Nat):Rm B (w.drewN n) g c T v:=⟨h.blk,h.row,h.far,h.le⟩
theorem Rm.kept {B:Nat} {w w':World} {g c:Nat} {T:List Bool} {v:Value} (h:Rm B w g c T v) {F:Nat→Prop} (hk:Kept F w w') (h1:¬F g) (h2:∀k,v.ownBlock=some k→¬F k):Rm B w' g c T v:=
 ⟨(hk.block g (Array.getElem?_eq_some_iff.1 h.blk).1 h1).trans h.blk,hk.row h.row h2,h.far,h.le⟩
theorem Rm.step {B:Nat} {w:World} {g c:Nat} {T:List Bool} {v:Value} (h:Rm B w g c T v) (hc:c+1≤T.length):Rm B (w.setCell ⟨g,1,none⟩ (.int .i64 ((c:Int)+1))) g (c+1) T v:=by
 refine ⟨by rw [blk_set h.blk];simp,?_,h.far,hc⟩;exact ((Kept.refl (fun k=>k=g) w).setCell (p:=⟨g,1,none⟩) (fun _=>rfl) _).row h.row (fun k hk e=>h.far k hk e)
theorem Rm.spell {B:Nat} {w:World} {g c:Nat} {T:List Bool} {v:Value} (h:Rm B w g c T v):∃a cap,v=.slice a T.length cap:=by
 rcases h.row.2 with ⟨h0,h1⟩ | ⟨r,cap,cur,hv,_⟩
 ·exact ⟨none,0,by rw [h0,h1]⟩
 ·exact ⟨_,cap,hv⟩
theorem Rm.spot {B:Nat} {w:World} {g c:Nat} {T:List Bool} {v:Value} (h:Rm B w g c T v) (h0:0<T.length):∃r cap,v=.slice (some ⟨r,0,none⟩) T.length cap∧∀j,j<T.length→w.cell? ⟨r,j,none⟩=some (.int .u8 ((T.getD j false).toNat:Int)):=by
 rcases h.row.2 with ⟨_,h1⟩ | ⟨r,cap,cur,hv,_⟩
 ·omega
 ·subst hv;refine ⟨r,cap,rfl,fun j hj=>?_⟩;rw [h.row.cellAt j (by omega)];simp [b01,hj]
theorem rRead_any (s:ByteArray) (w:World) (hs:s.size≤16777216):
  Calls Tryz.prog 66 #[.string s] w fun e w'=>∃g v,e=.returned (.pointer (some ⟨g,0,none⟩))∧Rm w.heap.size w' g 0 (tb (bys s)) v∧w.heap.size≤g∧Below w.heap.size w w':=by
 go_enter Tryz.func66,Tryz.ntmps66;go_wp2_with fail
 refine (rBits_any s w hs).mono ?_;rintro e w1 ⟨v,rfl,hrow,hb⟩;have HROW:Hid (w1.ownsRow w.heap.size 5 1 v (8 * s.size) (b01 (tb (bys s)))):=hrow;have HB:Hid (Below w.heap.size w w1):=hb
 obtain ⟨a,cap,rfl⟩:∃a cap,v=.slice a (8 * s.size) cap:=by
  rcases hrow.2 with ⟨h0,h1⟩ | ⟨r,cap,cur,hv,_⟩
  ·exact ⟨none,0,by rw [h0,h1]⟩
  ·exact ⟨_,cap,hv⟩
 clear hrow hb;go_wp2_with fail
 go_ret;have e:(tb (bys s)).length=8 * s.size:=by rw [tb_length,bys_length]
 refine ⟨w1.heap.size,_,rfl,⟨heap_alloc_new w1 _,by rw [e];exact HROW.out.alloc _,fun k hk=>by have:=(HROW.out.lt k hk).2;omega,Nat.zero_le _⟩,HB.out.size,Below.more HB.out _⟩
theorem bv_snoc (l:List Bool) (k:Nat) (hk:k<l.length):bv (l.take (k+1))=2 * bv (l.take k)+(l.getD k false).toNat:=by
 rw [take_snoc l k false hk,bv_append];simp [bv];omega
set_option maxHeartbeats 1000000 in
theorem rTake_no (B g c:Nat) (T:List Bool) (v:Value) (n:Int) (w:World) (h:Rm B w g c T v) (hT:T.length<4611686018427387904) (hn:¬(Gw n∧n≤((T.length - c:Nat):Int))):
  Calls Tryz.prog 157 #[.pointer (some ⟨g,0,none⟩),.int .i64 n] w fun e w'=>e=.returned (.tuple #[.int .u64 0,.int .i64 6])∧∃m,w'=w.drewN m:=by
 by_cases h1:1≤n
 ·by_cases h2:n≤64
  ·obtain ⟨a,cap,rfl⟩:=h.spell;have c0:=h.c0;have c1:=h.c1;have hle:=h.le;obtain ⟨m,hm⟩:∃m,T.length=m:=⟨_,rfl⟩;rw [hm] at c0 hle hT hn;obtain ⟨q,hq⟩:∃q,m - c=q:=⟨_,rfl⟩;rw [hq] at hn
   have hlt:(q:Int)<n:=by
    rcases Int.lt_or_le (q:Int) n with h | h
    ·exact h
    ·exact absurd ⟨⟨h1,h2⟩,h⟩ hn
   have hsub:(m:Int) - (c:Int)=(q:Int):=by omega
   have hsub2:=wrap64_nat q (by omega);have d1:decide (n<1)=false:=by simp;omega
   have d2:decide ((64:Int)<n)=false:=by simp;omega
   have d3:decide ((q:Int)<n)=true:=by simp;omega
   clear hn hm hq h;go_enter Tryz.func157,Tryz.ntmps157;go_wp2_with fail
   go_region_held3 (fun w'=>w'.cell? ⟨g,0,none⟩=some (.slice a m cap)∧w'.cell? ⟨g,1,none⟩=some (.int .i64 (c:Int))) (go_keep) (fail)
   go_wp2_with fail
   go_ret2
   exact ⟨rfl,1,rfl⟩
  ·have d1:decide (n<1)=false:=by simp;omega
   have d2:decide ((64:Int)<n)=true:=by simp;omega
   clear hn h;go_enter Tryz.func157,Tryz.ntmps157;go_wp2_with fail
   go_quiet (fail)
   go_wp2_with fail
   go_ret2
   exact ⟨rfl,_,rfl⟩
 ·have d1:decide (n<1)=true:=by simp;omega
  clear hn h;go_enter Tryz.func157,Tryz.ntmps157;go_wp2_with fail
  go_quiet (fail)
  go_wp2_with fail
  go_ret2
  exact ⟨rfl,_,rfl⟩
set_option maxHeartbeats 2000000 in
set_option maxRecDepth 100000 in
theorem rTake_yes (B g c n:Nat) (T:List Bool) (v:Value) (w:World) (h:Rm B w g c T v) (hT:T.length<4611686018427387904) (h1:1≤n) (h2:n≤64) (hn:c+n≤T.length):
  Calls Tryz.prog 157 #[.pointer (some ⟨g,0,none⟩),.int .i64 (n:Int)] w fun e w'=>e=.returned (.tuple #[.int .u64 ((bv ((T.drop c).take n):Nat):Int),.int .i64 0])∧Rm B w' g (c+n) T v∧Kept (fun k=>k=g) w w':=by
 obtain ⟨r,cap,rfl,-⟩:=h.spot (by omega);have c0:=h.c0;have c1:=h.c1;obtain ⟨m,hm⟩:∃m,T.length=m:=⟨_,rfl⟩;rw [hm] at c0 h hT hn;rw [hm];obtain ⟨q,hq⟩:∃q,m - c=q:=⟨_,rfl⟩;have hsub:(m:Int) - (c:Int)=(q:Int):=by omega
 have hsub2:=wrap64_nat q (by omega);have d1:decide ((n:Int)<1)=false:=by simp;omega
 have d2:decide ((64:Int)<(n:Int))=false:=by simp;omega
 have d3:decide ((q:Int)<(n:Int))=false:=by simp;omega
 have d4:decide (q<n)=false:=by simp;omega
 have d5:¬q<n:=by omega
 have HM:Hid (T.length=m):=hm;have HN:Hid (c+n≤m):=hn;have HR:Hid (Rm B w g c T (.slice (some ⟨r,0,none⟩) m cap)):=h;clear hm hq h hn;go_enter Tryz.func157,Tryz.ntmps157;go_wp2_with fail
 go_region_held3 (fun w'=>w'.cell? ⟨g,0,none⟩=some (.slice (some ⟨r,0,none⟩) m cap)∧w'.cell? ⟨g,1,none⟩=some (.int .i64 (c:Int))) (go_keep) (fail)
 go_wp2_with fail
 go_loopw [6,7] (fun x i wr=>∃k:Nat,k≤n∧i=.int .i64 (k:Int)∧x=.int .u64 ((bv ((T.drop c).take k):Nat):Int)∧Rm B wr g (c+k) T (.slice (some ⟨r,0,none⟩) m cap)∧Kept (fun k=>k=g) w wr) (fun _ i _=>n - (intOf i).toNat)
 case atStart=>exact ⟨0,by omega,rfl,by simp [bv],HR.out.drew,(Kept.refl _ _).drew⟩
 case round=>
  obtain ⟨k,hk,rfl,rfl,hr,hkp⟩:=hrel;have HR1:Hid (Rm B wr g (c+k) T (.slice (some ⟨r,0,none⟩) m cap)):=hr;have HKP:Hid (Kept (fun k=>k=g) w wr):=hkp;clear hr hkp c0 c1;by_cases hkn:k<n
  ·have i2:(k:Int)<(n:Int):=by omega
   obtain ⟨p,hp⟩:∃p,c+k=p:=⟨_,rfl⟩;rw [hp] at HR1;have c0:=HR1.out.c0;have c1:=HR1.out.c1;have hlt:p<m:=by have:=HN.out;omega
   have c2:wr.cell? ⟨r,p,none⟩=some (.int .u8 ((T.getD p false).toNat:Int)):=by
    have hrow:=HR1.out.row;rw [HM.out] at hrow;rw [hrow.cellAt p (by omega)];simp [b01,HM.out,hlt]
   have HF:Hid (∀j,wr.frozen? ⟨g,j,none⟩=false):=fun j=>HR1.out.fr j
   have hfz:wr.drew.frozen? ⟨g,1,none⟩=false:=HR1.out.fr 1
   have HS:Hid (bv ((T.drop c).take (k+1))=2 * bv ((T.drop c).take k)+(T.getD p false).toNat):=by
    have:=bv_snoc (T.drop c) k (by rw [List.length_drop,HM.out];omega);unfold Hid;rw [this,←hp];simp
   have hlt64:bv ((T.drop c).take k)<9223372036854775808:=by
    have:=bv_lt ((T.drop c).take k);refine Nat.lt_of_lt_of_le this ?_;have h3:((T.drop c).take k).length≤63:=by rw [List.length_take];omega
    have:=Nat.pow_le_pow_right (n:=2) (by decide) h3
    simpa using this
   obtain ⟨V,hV⟩:∃V,bv ((T.drop c).take k)=V:=⟨_,rfl⟩;obtain ⟨e,he⟩:∃e:Nat,(T.getD p false).toNat=e:=⟨_,rfl⟩;have he1:e≤1:=by rw [←he];cases T.getD p false <;> simp
   rw [hV] at hlt64 HS ⊢;rw [he] at c2 HS;have p1:(0:Int)≤(p:Int):=by omega
   have p2:(p:Int)<(m:Int):=by omega
   have hw1:IntKind.u64.wrap (2 * (V:Int))=((2 * V:Nat):Int):=by rw [IntKind.wrap_u64];omega
   have hw2:IntKind.u64.wrap (((2 * V:Nat):Int)+(e:Int))=((2 * V+e:Nat):Int):=by rw [IntKind.wrap_u64];omega
   have hw3:IntKind.u64.wrap (2 * (V:Int)+(e:Int))=((2 * V+e:Nat):Int):=by rw [IntKind.wrap_u64];omega
   have hw4:IntKind.u64.wrap (e:Int)=(e:Int):=by rw [IntKind.wrap_u64];omega
   have HP:Hid (c+k=p):=hp;clear hV he hp;go_wp2_with fail
   go_region_held3 (fun w'=>w'.cell? ⟨g,0,none⟩=some (.slice (some ⟨r,0,none⟩) m cap)∧w'.cell? ⟨g,1,none⟩=some (.int .i64 (p:Int))∧w'.cell? ⟨r,p,none⟩=some (.int .u8 (e:Int))) (go_keep) (fail)
   go_wp2_with fail
   go_roundw
   case rel=>
    refine ⟨k+1,by omega,by go_num,by rw [HS.out];simp,?_,(HKP.out.setCell (p:=⟨g,1,none⟩) (fun _=>rfl) _).drew⟩;rw [show c+(k+1)=p+1 by have:=HP.out;omega];exact (HR1.out.step (by rw [HM.out];omega)).drew
   case measure=>simp [intOf];omega
  ·have i2:decide ((k:Int)<(n:Int))=false:=by simp;omega
   obtain rfl:k=n:=by omega
   go_wp2_with fail
   go_ret2
   exact ⟨rfl,HR1.out,HKP.out⟩
theorem row_later {w w':World} {B e k n:Nat} {v:Value} {xs:List Value} (h:w.ownsRow B e k v n xs) (hb:Below w.heap.size w w'):w'.ownsRow B e k v n xs:=(Kept.ofBelow (F:=fun _=>False) hb).row h (fun _ _ h=>h)
set_option maxHeartbeats 2000000 in
set_option maxRecDepth 100000 in
theorem rPack_some (b o c n:Nat) (fs:List (Nat×Int)) (hn:fs.length=n) (w:World) (hl:n≤16777216)
  (h1:∀i,i<n→w.cell? ⟨b,o+i * 2,none⟩=some (.int .u64 ((fs.getD i (0,0)).1:Int))∧w.cell? ⟨b,o+i * 2+1,none⟩=some (.int .i64 (fs.getD i (0,0)).2)∧(fs.getD i (0,0)).1<18446744073709551616):
  Calls Tryz.prog 63 #[.slice (some ⟨b,o,none⟩) n c] w fun e w'=>e=.returned (.tuple #[.string (pkS fs),.int .i64 (pkE fs)])∧Below w.heap.size w w':=by
 have HN:Hid (fs.length=n):=hn;clear hn;go_enter Tryz.func63,Tryz.ntmps63;go_wp2_with fail
 go_loopw [4,9] (fun v i wr=>∃k:Nat,k≤n∧i=.int .i64 (k:Int)∧(∀f∈fs.take k,okF f=true)∧Below w.heap.size w wr∧wr.ownsRow w.heap.size 5 1 v (bitsF (fs.take k)).length (b01 (bitsF (fs.take k)))) (fun _ i _=>n - (intOf i).toNat)
 case atStart=>exact ⟨0,by omega,rfl,by simp,Below.refl _ _,World.ownsRow_nil _ _ _ _⟩
 case round=>
  obtain ⟨k,hk,rfl,hok,hb,hrow⟩:=hrel;have HB:Hid (Below w.heap.size w wr):=hb;have HROW:Hid (wr.ownsRow w.heap.size 5 1 u4 (bitsF (fs.take k)).length (b01 (bitsF (fs.take k)))):=hrow;have HOK:Hid (∀f∈fs.take k,okF f=true):=hok
  have hlen:Hid ((bitsF (fs.take k)).length≤64 * k):=by
   have:=bitsF_le _ HOK.out;rw [List.length_take] at this;unfold Hid;omega
  clear hrow hok;by_cases hkn:k<n
  ·obtain ⟨c0,c1,hv64⟩:=h1 k hkn;have c0:=cell_later hb c0;have c1:=cell_later hb c1;have i1:(0:Int)≤(k:Int):=by omega
   have i2:(k:Int)<(n:Int):=by omega
   have HS:Hid (fs.take (k+1)=fs.take k++[fs.getD k (0,0)]):=take_snoc fs k (0,0) (by rw [HN.out];exact hkn);have HF:Hid (okF (fs.getD k (0,0))=false→fs.all okF=false):=all_take okF fs k (0,0) (by rw [HN.out];exact hkn);obtain ⟨v,d,evd⟩:∃v d,fs.getD k (0,0)=(v,d):=⟨_,_,rfl⟩;rw [evd] at c0 c1 hv64 HS HF;clear h1 evd hb;go_wp2_with fail
   refine (rRight_any v d _ hv64).mono ?_;rintro e w2 ⟨rfl,hb2⟩;have c0:w2.cell? ⟨wr.heap.size,0,none⟩=some (.int .u64 (v:Int)):=cell_later hb2 (by simp [go_sem]);have c1:w2.cell? ⟨wr.heap.size,1,none⟩=some (.int .i64 d):=cell_later hb2 (by simp [go_sem]);have HB2:Hid (Below w.heap.size w w2):=Below.then (Below.more HB.out _) hb2;have HR2:Hid (w2.ownsRow w.heap.size 5 1 u4 (bitsF (fs.take k)).length (b01 (bitsF (fs.take k)))):=row_later (HROW.out.alloc _) hb2;clear hb2
   cases hf:okF (v,d) with
   | true=>
    obtain ⟨d1,d2,d3⟩:=okF_width hf;obtain ⟨q,rfl⟩:∃q:Nat,d=(q:Int):=⟨d.toNat,by omega⟩;have HP:=rAdd_any w.heap.size v q _ (bitsF (fs.take k)) u4 w2 (by omega) (by omega) rfl HB2.out.size HR2.out (by have:=hlen.out;omega) hv64;have HFT:Hid (okF (v,(q:Int))=true):=hf;clear hf d3;go_wp2_with fail
    refine HP.mono ?_;rintro e w3 ⟨x',rfl,hr3,hk3,_⟩;have HR3:Hid (w3.ownsRow w.heap.size 5 1 x' ((bitsF (fs.take k)).length+q) (b01 (bitsF (fs.take k)++bo v q))):=hr3;have HB3:Hid (Below w.heap.size w w3):=Kept.toBelow HB2.out hk3 (fun j hj=>(HR2.out.lt j hj).1);clear hr3 hk3 HP;go_wp2_with fail
    go_roundw
    case rel=>
     refine ⟨k+1,by omega,by go_num,?_,HB3.out,?_⟩
     ·rw [HS.out];intro f hf;rcases List.mem_append.1 hf with hf | hf
      ·exact HOK.out f hf
      ·simp at hf;subst hf;exact HFT.out
     ·rw [HS.out,bitsF_append];have e:bitsF [(v,(q:Int))]=bo v q:=by simp [bitsF]
      rw [e,List.length_append,bo_length];exact HR3.out
    case measure=>simp [intOf];omega
   | false=>
    have hall:Hid (fs.all okF=false):=HF.out hf;clear hf;go_wp2_with fail
    go_ret2
    exact ⟨by simp [pkS,pkE,hall.out];rfl,HB2.out⟩
  ·have hkn':decide ((k:Int)<(n:Int))=false:=by simp;omega
   have e:fs.take k=fs:=List.take_of_length_le (by rw [HN.out];omega);have HE:Hid (fs.take k=fs):=e;have hp:=rBytes_any _ _ _ _ _ rfl (by have:=hlen.out;omega) HROW.out;clear e hb h1;go_wp2_with fail
   refine hp.mono ?_;rintro e w2 ⟨rfl,hb2⟩;have HB2:Hid (Below w.heap.size w w2):=Below.then HB.out hb2;clear hb2 hp;go_wp2_with fail
   go_ret2
   have hall:fs.all okF=true:=by
    rw [List.all_eq_true];intro f hf;exact HOK.out f (by rw [HE.out];exact hf)
   exact ⟨by simp [pkS,pkE,hall,HE.out],HB2.out⟩
set_option maxHeartbeats 2000000 in
set_option maxRecDepth 100000 in
theorem rPack_none (a:Option Addr) (c:Nat) (w:World):
  Calls Tryz.prog 63 #[.slice a 0 c] w fun e w'=>e=.returned (.tuple #[.string (pkS []),.int .i64 (pkE [])])∧Below w.heap.size w w':=by
 go_enter Tryz.func63,Tryz.ntmps63;go_wp2_with fail
 refine wp_loop_rounds 1 ?_;rw [rounds_succ];go_wp2_with fail
 refine (rBytes_nil w).mono ?_;rintro e w2 ⟨rfl,hb2⟩;go_wp2_with fail
 go_ret2
 exact ⟨rfl,hb2⟩
theorem rPack_any (a:Option Addr) (c n:Nat) (fs:List (Nat×Int)) (hn:fs.length=n) (w:World) (hl:n≤16777216) (h:RdF w a fs):
  Calls Tryz.prog 63 #[.slice a n c] w fun e w'=>e=.returned (.tuple #[.string (pkS fs),.int .i64 (pkE fs)])∧Below w.heap.size w w':=by
 subst hn;by_cases h0:fs=[]
 ·subst h0;exact rPack_none a c w
 ·obtain ⟨b,o,rfl,k1⟩:=h.spot h0;exact rPack_some b o c fs.length fs rfl w hl k1
end Go.Proofs.YtoimkngkcliinaaGreatDoor.Bt
