/- Opening rosters, batches and cases that came in as arguments. -/
import Derived.Test.YtoimkngkcliinaaGreatDoorJRsH
import Derived.ProofKit
import Derived.OpenShut
import Derived.Below
import Derived.Lib.SmallJoins
import Derived.Deep.SlicePairs
import Derived.Deep.Slices
import Derived.Deep.Strs
import Derived.ChangeSlices
import Derived.SizedLaws
namespace Go.Proofs.YtoimkngkcliinaaGreatDoor.Rs
open Go.ChangeShapes Go.WideShapes Go.ChangeAt Go.RowKit Go.Joins Go.Deep
set_option linter.unusedVariables false
set_option maxRecDepth 20000
set_option linter.unusedSimpArgs false
theorem bytesI:Tryz.prog.bytesOf 3=8:=by kernel_rfl
theorem add_plain (b o i:Nat):(⟨b,o,none⟩:Addr).add i=⟨b,o+i,none⟩:=by unfold Addr.add;split <;> simp_all
section
variable {H:Type} {enc:TypeId×Value→H} {W:World} {base:Nat} {spare:Nat→Bool} {held:Bool}
theorem ints_raw {fuel:Nat} {cs:List Value} {x:DataW H×List MemPlace} (hs:∀es sp,x.1=.slice es sp→(es.length+sp.length) * 8≤reachBytes) (hf:DataW.trod enc Tryz.prog W base spare held fuel 39 cs=some x):
  ∃(a:Option Addr) (cap:Nat) (ws:List Int),cs=[.slice a ws.length cap]∧RdI W a ws∧ws.length * 8≤140737488351232:=by
 rcases open_ints Tryz.underlying39 Tryz.underlying3 (by kernel_rfl) hf with ⟨rfl,_⟩ | ⟨a,len,cap,zs,rfl,_,hl,_,hm,hx,hc,_⟩
 ·exact ⟨none,0,[],rfl,RdI.nil _ _,by simp⟩
 ·have hlm:len≤zs.length:=by rw [hm];split <;> omega
  have hlen:(zs.take len).length=len:=by rw [List.length_take];omega
  refine ⟨some a,cap,zs.take len,by rw [hlen],fun i hi=>?_,?_⟩
  ·have hi':i<len:=by rw [hlen] at hi;exact hi
   have c0:=hc i (by omega);obtain ⟨b,o,sp⟩:=a;have hsp:sp=none:=by simpa [Addr.add] using World.cell?_spot (hc 0 (by omega))
   subst hsp;have e:(zs.take len).getD i 0=zs.getD i 0:=by simp [hi']
   rw [e];rw [add_plain] at c0;exact ⟨b,o,rfl,c0⟩
  ·have h1:=hs (lits .i64 (zs.take len)) (lits .i64 (zs.drop len)) (by rw [hx]);simp [lits,reachBytes] at h1;rw [hlen];omega
end
end Go.Proofs.YtoimkngkcliinaaGreatDoor.Rs
