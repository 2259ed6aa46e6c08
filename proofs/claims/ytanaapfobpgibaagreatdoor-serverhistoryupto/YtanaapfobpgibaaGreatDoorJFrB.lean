/- FrB, FrB2, FrB3, FrS, FrC, joined. -/
import Derived.Test.YtanaapfobpgibaaGreatDoorJFrA
import Derived.WalkSmall
import Derived.Test.YtanaapfobpgibaaGreatDoorHd
import Derived.Test.YtanaapfobpgibaaGreatDoorShelf
open Go.Proofs.Tryz
set_option maxHeartbeats 4000000
namespace Go.Proofs.YtanaapfobpgibaaGreatDoor.Jr
open Go.RowKit Go.Maps
set_option linter.unusedVariables false
set_option linter.unusedSimpArgs false
set_option maxRecDepth 100000 in
theorem KD (q p n:Int) (d:ByteArray) (w:World) (g0:gs q=false):Calls prog 175 #[.agg #[.int .i64 q,.int .i64 p,.int .i64 n,.string d]] w fun e w'=>e=.returned (.bool (rt q p n d.size))∧Below w.heap.size w w':=by
 have ry:=fun W=>dQ q W
 rw [g0] at ry;go_enter func175,ntmps175;go_wp2_with fail
 have hS:Below w.heap.size w (w.alloc (.cells #[.int .i64 q,.int .i64 p,.int .i64 n,.string d] 234))∧(w.alloc (.cells #[.int .i64 q,.int .i64 p,.int .i64 n,.string d] 234)).cell? ⟨w.heap.size,0,none⟩=some (.int .i64 q)∧(w.alloc (.cells #[.int .i64 q,.int .i64 p,.int .i64 n,.string d] 234)).cell? ⟨w.heap.size,1,none⟩=some (.int .i64 p)∧(w.alloc (.cells #[.int .i64 q,.int .i64 p,.int .i64 n,.string d] 234)).cell? ⟨w.heap.size,2,none⟩=some (.int .i64 n)∧(w.alloc (.cells #[.int .i64 q,.int .i64 p,.int .i64 n,.string d] 234)).cell? ⟨w.heap.size,3,none⟩=some (.string d):=⟨aX _ _,by simp [go_sem],by simp [go_sem],by simp [go_sem],by simp [go_sem]⟩;generalize w.alloc (.cells #[.int .i64 q,.int .i64 p,.int .i64 n,.string d] 234)=w1 at hS ⊢;obtain ⟨cA,c0,c1,c2,c3⟩:=hS;have dV:Hid (Below w.heap.size w w1):=cA;clear cA;go_quiet ((go_at_call 120;exact Calls.quiet_of_same (ry _)))
 go_wp2
 go_ret;exact ⟨ae (by simp [rt, *]),_root_.Go.below_drewN dV.out _⟩
set_option maxRecDepth 100000 in
theorem KC (q p n:Int) (d:ByteArray) (w:World) (g0:gs q=true) (g1:decide (1≤n)=false):Calls prog 175 #[.agg #[.int .i64 q,.int .i64 p,.int .i64 n,.string d]] w fun e w'=>e=.returned (.bool (rt q p n d.size))∧Below w.heap.size w w':=by
 have ry:=fun W=>dQ q W
 rw [g0] at ry;go_enter func175,ntmps175;go_wp2_with fail
 have hS:Below w.heap.size w (w.alloc (.cells #[.int .i64 q,.int .i64 p,.int .i64 n,.string d] 234))∧(w.alloc (.cells #[.int .i64 q,.int .i64 p,.int .i64 n,.string d] 234)).cell? ⟨w.heap.size,0,none⟩=some (.int .i64 q)∧(w.alloc (.cells #[.int .i64 q,.int .i64 p,.int .i64 n,.string d] 234)).cell? ⟨w.heap.size,1,none⟩=some (.int .i64 p)∧(w.alloc (.cells #[.int .i64 q,.int .i64 p,.int .i64 n,.string d] 234)).cell? ⟨w.heap.size,2,none⟩=some (.int .i64 n)∧(w.alloc (.cells #[.int .i64 q,.int .i64 p,.int .i64 n,.string d] 234)).cell? ⟨w.heap.size,3,none⟩=some (.string d):=⟨aX _ _,by simp [go_sem],by simp [go_sem],by simp [go_sem],by simp [go_sem]⟩;generalize w.alloc (.cells #[.int .i64 q,.int .i64 p,.int .i64 n,.string d] 234)=w1 at hS ⊢;obtain ⟨cA,c0,c1,c2,c3⟩:=hS;have dV:Hid (Below w.heap.size w w1):=cA;clear cA;go_quiet ((go_at_call 120;exact Calls.quiet_of_same (ry _)))
 go_wp2
 go_ret;exact ⟨ae (by simp [rt, *]),_root_.Go.below_drewN dV.out _⟩
set_option maxRecDepth 100000 in
theorem KB (q p n:Int) (d:ByteArray) (w:World) (g0:gs q=true) (g1:decide (1≤n)=true) (g2:decide (n≤255)=false):Calls prog 175 #[.agg #[.int .i64 q,.int .i64 p,.int .i64 n,.string d]] w fun e w'=>e=.returned (.bool (rt q p n d.size))∧Below w.heap.size w w':=by
 have ry:=fun W=>dQ q W
 rw [g0] at ry;go_enter func175,ntmps175;go_wp2_with fail
 have hS:Below w.heap.size w (w.alloc (.cells #[.int .i64 q,.int .i64 p,.int .i64 n,.string d] 234))∧(w.alloc (.cells #[.int .i64 q,.int .i64 p,.int .i64 n,.string d] 234)).cell? ⟨w.heap.size,0,none⟩=some (.int .i64 q)∧(w.alloc (.cells #[.int .i64 q,.int .i64 p,.int .i64 n,.string d] 234)).cell? ⟨w.heap.size,1,none⟩=some (.int .i64 p)∧(w.alloc (.cells #[.int .i64 q,.int .i64 p,.int .i64 n,.string d] 234)).cell? ⟨w.heap.size,2,none⟩=some (.int .i64 n)∧(w.alloc (.cells #[.int .i64 q,.int .i64 p,.int .i64 n,.string d] 234)).cell? ⟨w.heap.size,3,none⟩=some (.string d):=⟨aX _ _,by simp [go_sem],by simp [go_sem],by simp [go_sem],by simp [go_sem]⟩;generalize w.alloc (.cells #[.int .i64 q,.int .i64 p,.int .i64 n,.string d] 234)=w1 at hS ⊢;obtain ⟨cA,c0,c1,c2,c3⟩:=hS;have dV:Hid (Below w.heap.size w w1):=cA;clear cA;go_quiet ((go_at_call 120;exact Calls.quiet_of_same (ry _)))
 go_wp2
 go_ret;exact ⟨ae (by simp [rt, *]),_root_.Go.below_drewN dV.out _⟩
set_option maxRecDepth 100000 in
theorem KA (q p n:Int) (d:ByteArray) (w:World) (g0:gs q=true) (g1:decide (1≤n)=true) (g2:decide (n≤255)=true) (g3:decide (0≤p)=false):Calls prog 175 #[.agg #[.int .i64 q,.int .i64 p,.int .i64 n,.string d]] w fun e w'=>e=.returned (.bool (rt q p n d.size))∧Below w.heap.size w w':=by
 have ry:=fun W=>dQ q W
 rw [g0] at ry;go_enter func175,ntmps175;go_wp2_with fail
 have hS:Below w.heap.size w (w.alloc (.cells #[.int .i64 q,.int .i64 p,.int .i64 n,.string d] 234))∧(w.alloc (.cells #[.int .i64 q,.int .i64 p,.int .i64 n,.string d] 234)).cell? ⟨w.heap.size,0,none⟩=some (.int .i64 q)∧(w.alloc (.cells #[.int .i64 q,.int .i64 p,.int .i64 n,.string d] 234)).cell? ⟨w.heap.size,1,none⟩=some (.int .i64 p)∧(w.alloc (.cells #[.int .i64 q,.int .i64 p,.int .i64 n,.string d] 234)).cell? ⟨w.heap.size,2,none⟩=some (.int .i64 n)∧(w.alloc (.cells #[.int .i64 q,.int .i64 p,.int .i64 n,.string d] 234)).cell? ⟨w.heap.size,3,none⟩=some (.string d):=⟨aX _ _,by simp [go_sem],by simp [go_sem],by simp [go_sem],by simp [go_sem]⟩;generalize w.alloc (.cells #[.int .i64 q,.int .i64 p,.int .i64 n,.string d] 234)=w1 at hS ⊢;obtain ⟨cA,c0,c1,c2,c3⟩:=hS;have dV:Hid (Below w.heap.size w w1):=cA;clear cA;go_quiet ((go_at_call 120;exact Calls.quiet_of_same (ry _)))
 go_wp2
 go_ret;exact ⟨ae (by simp [rt, *]),_root_.Go.below_drewN dV.out _⟩
set_option maxRecDepth 100000 in
theorem Kz (q p n:Int) (d:ByteArray) (w:World) (g0:gs q=true) (g1:decide (1≤n)=true) (g2:decide (n≤255)=true) (g3:decide (0≤p)=true) (g4:decide (p<n)=false):Calls prog 175 #[.agg #[.int .i64 q,.int .i64 p,.int .i64 n,.string d]] w fun e w'=>e=.returned (.bool (rt q p n d.size))∧Below w.heap.size w w':=by
 have ry:=fun W=>dQ q W
 rw [g0] at ry;go_enter func175,ntmps175;go_wp2_with fail
 have hS:Below w.heap.size w (w.alloc (.cells #[.int .i64 q,.int .i64 p,.int .i64 n,.string d] 234))∧(w.alloc (.cells #[.int .i64 q,.int .i64 p,.int .i64 n,.string d] 234)).cell? ⟨w.heap.size,0,none⟩=some (.int .i64 q)∧(w.alloc (.cells #[.int .i64 q,.int .i64 p,.int .i64 n,.string d] 234)).cell? ⟨w.heap.size,1,none⟩=some (.int .i64 p)∧(w.alloc (.cells #[.int .i64 q,.int .i64 p,.int .i64 n,.string d] 234)).cell? ⟨w.heap.size,2,none⟩=some (.int .i64 n)∧(w.alloc (.cells #[.int .i64 q,.int .i64 p,.int .i64 n,.string d] 234)).cell? ⟨w.heap.size,3,none⟩=some (.string d):=⟨aX _ _,by simp [go_sem],by simp [go_sem],by simp [go_sem],by simp [go_sem]⟩;generalize w.alloc (.cells #[.int .i64 q,.int .i64 p,.int .i64 n,.string d] 234)=w1 at hS ⊢;obtain ⟨cA,c0,c1,c2,c3⟩:=hS;have dV:Hid (Below w.heap.size w w1):=cA;clear cA;go_quiet ((go_at_call 120;exact Calls.quiet_of_same (ry _)))
 go_wp2
 go_ret;exact ⟨ae (by simp [rt, *]),_root_.Go.below_drewN dV.out _⟩
set_option maxRecDepth 100000 in
theorem Kv (q p n:Int) (d:ByteArray) (w:World) (g0:gs q=true) (g1:decide (1≤n)=true) (g2:decide (n≤255)=true) (g3:decide (0≤p)=true) (g4:decide (p<n)=true) (g5:decide (O3 p n≤(d.size:Int))=true):Calls prog 175 #[.agg #[.int .i64 q,.int .i64 p,.int .i64 n,.string d]] w fun e w'=>e=.returned (.bool (rt q p n d.size))∧Below w.heap.size w w':=by
 have n1:1≤n:=by simpa using g1
 have n2:n≤255:=by simpa using g2
 have hle:=fun W=>y7 q p n d (by omega) (by omega) W
 have ry:=fun W=>dQ q W
 rw [g0] at ry;go_enter func175,ntmps175;go_wp2_with fail
 have hS:Below w.heap.size w (w.alloc (.cells #[.int .i64 q,.int .i64 p,.int .i64 n,.string d] 234))∧(w.alloc (.cells #[.int .i64 q,.int .i64 p,.int .i64 n,.string d] 234)).cell? ⟨w.heap.size,0,none⟩=some (.int .i64 q)∧(w.alloc (.cells #[.int .i64 q,.int .i64 p,.int .i64 n,.string d] 234)).cell? ⟨w.heap.size,1,none⟩=some (.int .i64 p)∧(w.alloc (.cells #[.int .i64 q,.int .i64 p,.int .i64 n,.string d] 234)).cell? ⟨w.heap.size,2,none⟩=some (.int .i64 n)∧(w.alloc (.cells #[.int .i64 q,.int .i64 p,.int .i64 n,.string d] 234)).cell? ⟨w.heap.size,3,none⟩=some (.string d):=⟨aX _ _,by simp [go_sem],by simp [go_sem],by simp [go_sem],by simp [go_sem]⟩;generalize w.alloc (.cells #[.int .i64 q,.int .i64 p,.int .i64 n,.string d] 234)=w1 at hS ⊢;obtain ⟨cA,c0,c1,c2,c3⟩:=hS;have dV:Hid (Below w.heap.size w w1):=cA;clear cA;go_region_held3 (fun w'=>Below w.heap.size w w'∧w'.cell? ⟨w.heap.size,0,none⟩=some (.int .i64 q)∧w'.cell? ⟨w.heap.size,1,none⟩=some (.int .i64 p)∧w'.cell? ⟨w.heap.size,2,none⟩=some (.int .i64 n)∧w'.cell? ⟨w.heap.size,3,none⟩=some (.string d)) (first | exact ⟨dV.out.drew,c0,c1,c2,c3⟩ | exact We (by assumption) hb | assumption) (first | (go_at_call 120;refine (ry _).mono ?_;rintro e w' ⟨rfl,rfl⟩) | (go_at_call 228;refine (hle _).mono ?_;rintro e w' ⟨rfl,hb⟩))
 all_goals go_wp2
 all_goals go_ret
 all_goals exact ⟨ae (by simp [rt, *]),by rename_i hh;exact hh.1⟩
set_option maxRecDepth 100000 in
theorem KE (q p n:Int) (d:ByteArray) (w:World) (g0:gs q=true) (g1:decide (1≤n)=true) (g2:decide (n≤255)=true) (g3:decide (0≤p)=true) (g4:decide (p<n)=true) (g5:decide (O3 p n≤(d.size:Int))=false):Calls prog 175 #[.agg #[.int .i64 q,.int .i64 p,.int .i64 n,.string d]] w fun e w'=>e=.returned (.bool (rt q p n d.size))∧Below w.heap.size w w':=by
 have n1:1≤n:=by simpa using g1
 have n2:n≤255:=by simpa using g2
 have hle:=fun W=>y7 q p n d (by omega) (by omega) W
 have ry:=fun W=>dQ q W
 rw [g0] at ry;go_enter func175,ntmps175;go_wp2_with fail
 have hS:Below w.heap.size w (w.alloc (.cells #[.int .i64 q,.int .i64 p,.int .i64 n,.string d] 234))∧(w.alloc (.cells #[.int .i64 q,.int .i64 p,.int .i64 n,.string d] 234)).cell? ⟨w.heap.size,0,none⟩=some (.int .i64 q)∧(w.alloc (.cells #[.int .i64 q,.int .i64 p,.int .i64 n,.string d] 234)).cell? ⟨w.heap.size,1,none⟩=some (.int .i64 p)∧(w.alloc (.cells #[.int .i64 q,.int .i64 p,.int .i64 n,.string d] 234)).cell? ⟨w.heap.size,2,none⟩=some (.int .i64 n)∧(w.alloc (.cells #[.int .i64 q,.int .i64 p,.int .i64 n,.string d] 234)).cell? ⟨w.heap.size,3,none⟩=some (.string d):=⟨aX _ _,by simp [go_sem],by simp [go_sem],by simp [go_sem],by simp [go_sem]⟩;generalize w.alloc (.cells #[.int .i64 q,.int .i64 p,.int .i64 n,.string d] 234)=w1 at hS ⊢;obtain ⟨cA,c0,c1,c2,c3⟩:=hS;have dV:Hid (Below w.heap.size w w1):=cA;clear cA;refine wp_region_held_drew (S:=fun w'=>Below w.heap.size w w'∧w'.cell? ⟨w.heap.size,0,none⟩=some (.int .i64 q)∧w'.cell? ⟨w.heap.size,1,none⟩=some (.int .i64 p)∧w'.cell? ⟨w.heap.size,2,none⟩=some (.int .i64 n)∧w'.cell? ⟨w.heap.size,3,none⟩=some (.string d)) (by kernel_rfl) ⟨dV.out.drew,c0,c1,c2,c3⟩ (fun hHeld=>?_);clear c0 c1 c2 c3;refine aH 0 (.pointer (some ⟨w.heap.size,0,none⟩)) rfl ?_;go_frame;refine aH 1 (.int .i64 q) rfl ?_;go_frame;refine wpAnyH_ready (rs:=[2]) (by kernel_rfl) (by simp) ?_;refine AllReadyH.cons (o:={dst:=some 5,op:=Op.call {callee:=Callee.value (Operand.func 120),args:=#[.tmp 4],argTypes:=#[3]},type:=4,pos:=_,after:=#[{on:=1,ground:=Ground.data}],guard:=none}) rfl (fun K hK=>?_) AllReadyH.nil;go_simp
 refine (ry _).mono ?_;rintro e w' ⟨rfl,rfl⟩;go_wp2_with fail
 refine hK.out _ _ hHeld (fun Y6=>?_);clear hK K;try go_frame
 refine aH 3 (.bool true) rfl ?_;go_frame;refine aH 4 (.pointer (some ⟨w.heap.size,2,none⟩)) rfl ?_;go_frame;refine aH 5 (.int .i64 n) rfl ?_;go_frame;refine aH 6 (.bool true) rfl ?_;go_frame;refine aH 7 (.bool true) rfl ?_;go_frame;refine aH 8 (.bool true) rfl ?_;go_frame;refine aH 9 (.pointer (some ⟨w.heap.size,2,none⟩)) rfl ?_;go_frame;refine aH 10 (.int .i64 n) rfl ?_;go_frame;refine aH 11 (.bool true) rfl ?_;go_frame;refine aH 12 (.bool true) rfl ?_;go_frame;refine aH 13 (.bool true) rfl ?_;go_frame;refine aH 14 (.pointer (some ⟨w.heap.size,1,none⟩)) rfl ?_;go_frame;refine aH 15 (.int .i64 p) rfl ?_;go_frame;refine aH 16 (.bool true) rfl ?_;go_frame;refine aH 17 (.bool true) rfl ?_;go_frame;refine aH 18 (.bool true) rfl ?_;go_frame;refine aH 19 (.pointer (some ⟨w.heap.size,1,none⟩)) rfl ?_;go_frame;refine aH 20 (.int .i64 p) rfl ?_;go_frame;refine aH 21 (.pointer (some ⟨w.heap.size,2,none⟩)) rfl ?_;go_frame;refine aH 22 (.int .i64 n) rfl ?_;go_frame;refine aH 23 (.bool true) rfl ?_;go_frame;refine aH 24 (.bool true) rfl ?_;go_frame;refine aH 25 (.bool true) rfl ?_;go_frame;refine aH 26 (.pointer (some ⟨w.heap.size,3,none⟩)) rfl ?_;go_frame;refine aH 27 (.string d) rfl ?_;go_frame;refine aH 28 (.int .i64 (d.size:Int)) rfl ?_;go_frame;refine aH 29 (.agg #[.int .i64 q,.int .i64 p,.int .i64 n,.string d]) rfl ?_;go_frame;refine wpAnyH_ready (rs:=[30]) (by kernel_rfl) (by simp) ?_;refine AllReadyH.cons (o:={dst:=some 33,op:=Op.call {callee:=Callee.value (Operand.func 228),args:=#[.tmp 32],argTypes:=#[234]},type:=3,pos:=_,after:=#[{on:=29,ground:=Ground.data},{on:=25,ground:=Ground.chain},{on:=25,ground:=Ground.guard}],guard:=some (25,true)}) rfl (fun K hK=>?_) AllReadyH.nil;go_simp
 refine (hle _).mono ?_;rintro e w' ⟨rfl,hb⟩;go_wp2_with fail
 refine hK.out _ _ (We hHeld hb) (fun aD=>?_);clear hK K hHeld Y6 hb;try go_frame
 refine aH 31 (.bool false) rfl ?_;go_frame;refine aH 32 (.bool false) rfl ?_;go_frame;refine aH 33 (.bool false) rfl ?_;go_frame;refine wpAnyH_take (i:=34) (oi:={dst:=some 37,op:=Op.fieldAddr 234 (.tmp 1) 3,type:=0,pos:=_,after:=#[{on:=33,ground:=Ground.guard}],guard:=some (33,true)}) (v:=undef) rfl (by kernel_rfl) (by kernel_rfl) (by kernel_rfl) (fun _ _ _ h=>h) (Or.inr ⟨by rfl,rfl⟩) (by assumption) ?_;go_frame;refine wpAnyH_take (i:=35) (oi:={dst:=some 38,op:=Op.load 9 (.tmp 37),type:=9,pos:=_,after:=#[{on:=34,ground:=Ground.data},{on:=33,ground:=Ground.guard}],guard:=some (33,true)}) (v:=undef) rfl (by kernel_rfl) (by kernel_rfl) (by kernel_rfl) (fun _ _ _ h=>h) (Or.inr ⟨by rfl,rfl⟩) (by assumption) ?_;go_frame;refine wpAnyH_take (i:=36) (oi:={dst:=some 39,op:=Op.call {callee:=Callee.builtin Builtin.len,args:=#[.tmp 38],argTypes:=#[9]},type:=3,pos:=_,after:=#[{on:=35,ground:=Ground.data},{on:=33,ground:=Ground.guard}],guard:=some (33,true)}) (v:=undef) rfl (by kernel_rfl) (by kernel_rfl) (by kernel_rfl) (fun _ _ _ h=>h) (Or.inr ⟨by rfl,rfl⟩) (by assumption) ?_;go_frame;refine wpAnyH_take (i:=37) (oi:={dst:=some 40,op:=Op.binOp BinOp.leq 3 (.tmp 39) (Operand.const (Value.int IntKind.i64 23)) 3,type:=4,pos:=_,after:=#[{on:=36,ground:=Ground.data},{on:=33,ground:=Ground.guard}],guard:=some (33,true)}) (v:=undef) rfl (by kernel_rfl) (by kernel_rfl) (by kernel_rfl) (fun _ _ _ h=>h) (Or.inr ⟨by rfl,rfl⟩) (by assumption) ?_;go_frame;refine aH 38 (.bool false) rfl ?_;go_frame;refine aH 39 (.bool false) rfl ?_;go_frame;refine wpAnyH_done (by kernel_rfl) ?_ _;go_wp2
 go_ret;exact ⟨ae (by simp [rt, *]),aD.1⟩
set_option maxRecDepth 4000
theorem Nx (c:Nat):Lib.repeatL [0] c=List.replicate c 0:=by
 induction c with
 | zero=>rfl
 | succ c ih=>simp [Lib.repeatL,ih,List.replicate_succ]
theorem Tq (c:Nat) (hc:c≤23) (w:World):Calls prog 176 #[.string ⟨#[0]⟩,.int .i64 (c:Int)] w fun e w'=>e=.returned (.string ⟨(List.replicate c 0).toArray⟩)∧Below w.heap.size w w':=by
 have h:=Any.strings_Repeat Tryz.lays105 Tryz.Builder_Extra_105 ⟨#[0]⟩ c w (by omega) (by show 1 * c≤_;omega);rw [←Nx];exact h
theorem MC (B b:Nat) (bs:List Value) (s:ByteArray) (w:World) (h:Lib.IsBuilderF 320 5 B b bs w) (hlen:bs.length+s.size≤140737488355328) (Qc:B≤w.heap.size):
  Calls prog 232 #[.pointer (some ⟨b,0,none⟩),.string s] w fun e w'=>e=.returned (.tuple #[.int .i64 s.size,.nilIface])∧(Lib.BuilderAtF 320 5 B b (.pointer (some ⟨b,0,none⟩)) (bs++Lib.strCells s) w'∧Below B w w'∧Lib.OthersKept 5 (some b) w w'):=
 Any.Builder_WriteString_k (P:=prog) (ρ:=Tryz.lays105_ren) {Tryz.lays105 with} Tryz.Builder_Extra_105 B b bs s w h hlen Qc
theorem Rf (B b:Nat) (l:List UInt8) (w:World) (h:Lib.IsBuilderF 320 5 B b (Lib.byteCells l) w) (Qc:B≤w.heap.size):
  Calls prog 234 #[.pointer (some ⟨b,0,none⟩)] w fun e w'=>e=.returned (.string ⟨l.toArray⟩)∧(Lib.IsBuilderF 320 5 B b (Lib.byteCells l) w'∧Below B w w'∧Lib.OthersKept 5 (some b) w w'):=
 Any.Builder_String_any_k (P:=prog) (ρ:=Tryz.lays105_ren) {Tryz.lays105 with} Tryz.Builder_Extra_105 B b l w h Qc
theorem eG (q p n:Int) (d:ByteArray) (w:World):Calls prog 175 #[.agg #[.int .i64 q,.int .i64 p,.int .i64 n,.string d]] w fun e w'=>e=.returned (.bool (rt q p n d.size))∧Below w.heap.size w w':=by
 cases g0:gs q with
 | false=>exact KD q p n d w g0
 | true=>
  cases g1:decide (1≤n) with
  | false=>exact KC q p n d w g0 g1
  | true=>
   cases g2:decide (n≤255) with
   | false=>exact KB q p n d w g0 g1 g2
   | true=>
    cases g3:decide (0≤p) with
    | false=>exact KA q p n d w g0 g1 g2 g3
    | true=>
     cases g4:decide (p<n) with
     | false=>exact Kz q p n d w g0 g1 g2 g3 g4
     | true=>
      cases g5:decide (O3 p n≤(d.size:Int)) with
      | false=>exact KE q p n d w g0 g1 g2 g3 g4 g5
      | true=>exact Kv q p n d w g0 g1 g2 g3 g4 g5
set_option maxRecDepth 100000 in
theorem D1 (q p n:Int) (d:ByteArray) (w:World) (h:rt q p n d.size=false):Calls prog 121 #[.agg #[.int .i64 q,.int .i64 p,.int .i64 n,.string d]] w fun e w'=>e=.returned (.tuple #[.string ⟨#[]⟩,.int .i64 7])∧Below w.heap.size w w':=by
 have hr:=fun W=>eG q p n d W
 rw [h] at hr;go_enter func121,ntmps121;go_wp2_with fail
 refine (hr _).mono ?_;rintro e w1 ⟨rfl,hb⟩;go_wp2_with fail
 go_ret2
 exact ⟨rfl,Below.then (aX _ _) hb⟩
theorem acs (w:World) (a b c d:Nat) (ha:a<65536) (hb:b<256) (hc:c<256) (hd:d<256) (T:TypeId):Bt.JR (w.alloc (.cells #[.int .u64 (a:Int),.int .i64 16,.int .u64 (b:Int),.int .i64 8,.int .u64 (c:Int),.int .i64 8,.int .u64 (d:Int),.int .i64 8] T)) (some ⟨w.heap.size,0,none⟩) [(a,16),(b,8),(c,8),(d,8)]:=by
 intro i hi;refine ⟨w.heap.size,0,rfl,?_⟩;have hi4:i<4:=hi;have:i=0∨i=1∨i=2∨i=3:=by omega
 rcases this with rfl | rfl | rfl | rfl <;> refine ⟨by simp [go_sem],by simp [go_sem],by simp;omega⟩
theorem Rk (Q P N:Nat) (d:ByteArray):Sm.tx [Q/256,Q%256,P,N,d.size]++d++⟨(List.replicate (23 - d.size) 0).toArray⟩=⟨(body Q P N d.data.toList).toArray⟩:=by
 apply ByteArray.ext
 apply Array.ext'
 rw [ByteArray.data_append,ByteArray.data_append];simp [Sm.tx,body,hd]
theorem Rj (Q P N:Nat) (d:ByteArray):(⟨(body Q P N d.data.toList).toArray⟩:ByteArray)++Sm.tx (Sm.b4 (Sm.ext 0 (body Q P N d.data.toList)))=bl Q P N d:=by
 apply ByteArray.ext
 apply Array.ext'
 rw [ByteArray.data_append];simp [Sm.tx,bl,bk,sm]
set_option maxRecDepth 100000 in
theorem LS (Q P N:Nat) (d:ByteArray) (w:World) (h:rt Q P N d.size=true):Calls prog 121 #[.agg #[.int .i64 (Q:Int),.int .i64 (P:Int),.int .i64 (N:Int),.string d]] w fun e w'=>e=.returned (.tuple #[.string (bl Q P N d),.int .i64 0])∧Below w.heap.size w w':=by
 have hr:=fun W=>eG Q P N d W
 rw [h] at hr;obtain ⟨h1,h2,h3,h4,h5,h6,h7,h8⟩:=(jv _ _ _ _).1 h;obtain ⟨z,hz⟩:∃z,d.size=z:=⟨_,rfl⟩;have HZ:Hid (d.size=z):=hz;rw [hz] at h8;have z23:z≤23:=by omega
 have q1:Q<65536:=by omega
 have p1:P<256:=by omega
 have n1:N<256:=by omega
 clear h h1 h2 h3 h4 h5 h6 h7 h8;have u1:IntKind.u64.wrap (Q:Int)=(Q:Int):=by rw [IntKind.wrap_u64];omega
 have u2:IntKind.u64.wrap (P:Int)=(P:Int):=by rw [IntKind.wrap_u64];omega
 have u3:IntKind.u64.wrap (N:Int)=(N:Int):=by rw [IntKind.wrap_u64];omega
 have u4:IntKind.u64.wrap (z:Int)=(z:Int):=by rw [IntKind.wrap_u64];omega
 obtain ⟨e1,e2⟩:=Uz Q P N z q1 p1 n1 (by omega);go_enter func121,ntmps121;go_wp2_with fail
 refine (hr _).mono ?_;rintro e w1 ⟨rfl,hb⟩;have c0:w1.cell? ⟨w.heap.size,0,none⟩=some (.int .i64 (Q:Int)):=cell_later hb (by simp [go_sem]);have c1:w1.cell? ⟨w.heap.size,1,none⟩=some (.int .i64 (P:Int)):=cell_later hb (by simp [go_sem]);have c2:w1.cell? ⟨w.heap.size,2,none⟩=some (.int .i64 (N:Int)):=cell_later hb (by simp [go_sem]);have c3:w1.cell? ⟨w.heap.size,3,none⟩=some (.string d):=cell_later hb (by simp [go_sem]);have dV:Hid (Below w.heap.size w w1):=Below.then (aX _ _) hb;clear hb hr;go_wp2_with fail
 have hp:=Bt.CK (some ⟨w1.heap.size,0,none⟩) 4 4 [(Q,16),(P,8),(N,8),(z,8)] rfl _ (by omega) (acs w1 Q P N z q1 p1 n1 (by omega) 110);rw [e1,e2] at hp;refine hp.mono ?_;rintro e w2 ⟨rfl,hb2⟩;have m6:Below w1.heap.size w1 w2:=Below.then (aX _ _) hb2;have d3:w2.cell? ⟨w.heap.size,3,none⟩=some (.string d):=cell_later m6 c3;have bm:Hid (Below w.heap.size w w2):=Below.then dV.out m6;obtain ⟨H,hH⟩:∃H,Sm.tx [Q/256,Q%256,P,N,z]=H:=⟨_,rfl⟩;have hH5:H.size=5:=by rw [←hH,Sm.nW];rfl
 have HH:Hid (Sm.tx [Q/256,Q%256,P,N,z]=H):=hH;rw [hH];obtain ⟨c,hc⟩:∃c:Nat,(23:Int) - (z:Int)=(c:Int):=⟨23 - z,by omega⟩;have HC:Hid (c=23 - z):=by unfold Hid;omega
 have c23:c≤23:=by omega
 obtain ⟨R,hR⟩:∃R:ByteArray,⟨(List.replicate c 0).toArray⟩=R:=⟨_,rfl⟩;have hRs:R.size=c:=by rw [←hR];simp [ByteArray.size]
 have HR:Hid ((⟨(List.replicate c 0).toArray⟩:ByteArray)=R):=hR;have aa5:=fun W=>Tq c c23 W
 rw [hR] at aa5;clear hp hb2 m6 hH hR e1 e2 u1 u2 u3 u4 c0 c1 c2 c3;have s1:¬9223372036854775807<H.size+d.size:=by omega
 have s2:¬9223372036854775807<H.size+d.size+R.size:=by omega
 have s3:(23:Int) - (d.size:Int)=(c:Int):=by rw [hz];exact hc
 have s4:IntKind.i64.wrap (c:Int)=(c:Int):=Bt.bu _ (by omega) (by omega);have HS:Hid (H.size=5∧R.size=c):=⟨hH5,hRs⟩;clear hH5 hRs hz hc z23;go_wp2_with fail
 go_region_held3 (fun w'=>Below w.heap.size w w'∧w'.cell? ⟨w.heap.size,3,none⟩=some (.string d)) (first | exact ⟨bm.out.drew,d3⟩ | exact ⟨Below.then (And.left (by assumption)) hb,cell_later hb (And.right (by assumption))⟩) ((go_at_call 176;refine (aa5 _).mono ?_;rintro e w' ⟨rfl,hb⟩))
 go_wp2_with fail
 have HW:Hid (Below w.heap.size w w'):=Below.then bm.out.drew hb
 have HX:Hid (H++d++R=⟨(body Q P N d.data.toList).toArray⟩):=by
  unfold Hid;have e:=Rk Q P N d;rw [HZ.out,HH.out,←HC.out,HR.out] at e;exact e
 have hXs:(H++d++R).size≤281474976710656:=by
  have:=HS.out;have:=HZ.out;rw [ByteArray.size_append,ByteArray.size_append];omega
 obtain ⟨X,hX⟩:∃X,H++d++R=X:=⟨_,rfl⟩;have ad3:¬9223372036854775807<X.size+4:=by rw [←hX];omega
 have HE:Hid (X=⟨(body Q P N d.data.toList).toArray⟩):=by unfold Hid;rw [←hX];exact HX.out
 rw [hX] at hXs ⊢;clear hX HX s1 s2 s3 s4 hb;refine (Sm.Ta X _ hXs).mono ?_;rintro e w3 ⟨rfl,rfl⟩;have hlt:=Sm.Zm 0 X.data.toList;obtain ⟨E,hE⟩:∃E,Sm.ext 0 X.data.toList=E:=⟨_,rfl⟩;have HEE:Hid (Sm.ext 0 X.data.toList=E):=hE;rw [hE] at hlt ⊢;clear hE;go_wp2_with fail
 refine (Sm.kZ E _ hlt).mono ?_;rintro e w4 ⟨rfl,hb4⟩;have hB:(Sm.tx (Sm.b4 E)).size=4:=by rw [Sm.nW];rfl
 obtain ⟨Y,hY⟩:∃Y,Sm.tx (Sm.b4 E)=Y:=⟨_,rfl⟩;have HY:Hid (Sm.tx (Sm.b4 E)=Y):=hY;rw [hY] at hB ⊢;clear hY;go_wp2_with fail
 go_ret2
 refine ⟨?_,Below.then HW.out hb4⟩;have e:=Rj Q P N d;rw [←HE.out] at e;have e2:(body Q P N d.data.toList)=X.data.toList:=by rw [HE.out]
 rw [e2,HEE.out,HY.out] at e;rw [e];rfl
theorem sL (q p n:Int) (d:ByteArray) (w:World):Calls prog 121 #[.agg #[.int .i64 q,.int .i64 p,.int .i64 n,.string d]] w fun e w'=>e=.returned (.tuple #[.string (if rt q p n d.size then bl q p n d else ⟨#[]⟩),.int .i64 (if rt q p n d.size then 0 else 7)])∧Below w.heap.size w w':=by
 cases h:rt q p n d.size with
 | false=>exact D1 q p n d w h
 | true=>
  obtain ⟨h1,h2,h3,h4,h5,h6,h7,h8⟩:=(jv _ _ _ _).1 h;obtain ⟨Q,rfl⟩:∃Q:Nat,q=(Q:Int):=⟨q.toNat,by omega⟩;obtain ⟨P,rfl⟩:∃P:Nat,p=(P:Int):=⟨p.toNat,by omega⟩;obtain ⟨N,rfl⟩:∃N:Nat,n=(N:Int):=⟨n.toNat,by omega⟩;exact LS Q P N d w h
end Go.Proofs.YtanaapfobpgibaaGreatDoor.Jr
